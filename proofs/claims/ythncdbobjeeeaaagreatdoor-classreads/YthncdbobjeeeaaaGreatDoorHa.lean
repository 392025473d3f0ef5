/- What a name, a type, a constant is: the document's answers. -/
import Derived.Test.YthncdbobjeeeaaaGreatDoorGh
namespace Go.Proofs.YthncdbobjeeeaaaGreatDoor
open Go.ChangeShapes Go.WideShapes Go.ChangeAt Go.RowKit

/-- A sign of a name, first or not. -/
def sign (c : Nat) (f : Bool) : Bool := letter c || (digit c && !f)

theorem docLetter_any (w : World) (c : Nat) (f : Bool) : Calls Tryz.prog 159 #[.int .u8 (c : Int), .bool f] w fun e w' => e = .returned (.bool (sign c f)) ∧ w' = w := by
  rcases (show (97 ≤ c ∧ c ≤ 122) ∨ (65 ≤ c ∧ c ≤ 90) ∨ (c = 95) ∨ (c = 36) ∨ (48 ≤ c ∧ c ≤ 57) ∨ (c < 48 ∧ c ≠ 36) ∨ (57 < c ∧ c < 65) ∨ (90 < c ∧ c < 97 ∧ c ≠ 95) ∨ (122 < c) by omega) with ⟨h1, h2⟩ | ⟨h1, h2⟩ | rfl | rfl | ⟨h1, h2⟩ | ⟨h1, h2⟩ | ⟨h1, h2⟩ | ⟨h1, h2, h3⟩ | h1
  · have HS : Hid (sign c f = true) := by show _ = _; simp [sign, letter]; omega
    go_enter Tryz.func159, Tryz.ntmps159
    go_wp2_with fail
    go_ret
    rw [HS.out]
    exact ⟨by first | rfl | (simp; done) | (simp; omega), rfl⟩
  · have HS : Hid (sign c f = true) := by show _ = _; simp [sign, letter]; omega
    have k0 : ¬ 97 ≤ c := by omega
    go_enter Tryz.func159, Tryz.ntmps159
    go_wp2_with fail
    go_ret
    rw [HS.out]
    exact ⟨by first | rfl | (simp; done) | (simp; omega), rfl⟩
  · have HS : Hid (sign 95 f = true) := rfl
    go_enter Tryz.func159, Tryz.ntmps159
    go_wp2_with fail
    go_ret
    rw [HS.out]
    exact ⟨rfl, rfl⟩
  · have HS : Hid (sign 36 f = true) := rfl
    go_enter Tryz.func159, Tryz.ntmps159
    go_wp2_with fail
    go_ret
    rw [HS.out]
    exact ⟨rfl, rfl⟩
  · have HS : Hid (sign c f = (!f)) := by show _ = _; cases f <;> simp [sign, letter, digit] <;> omega
    have k0 : ¬ 97 ≤ c := by omega
    have k1 : ¬ 65 ≤ c := by omega
    have n95 : ((c : Int) == 95) = false := by simp; omega
    have n36 : ((c : Int) == 36) = false := by simp; omega
    go_enter Tryz.func159, Tryz.ntmps159
    go_wp2_with fail
    go_ret
    rw [HS.out]
    exact ⟨by first | rfl | (simp; done) | (simp; omega), rfl⟩
  · have HS : Hid (sign c f = false) := by show _ = _; cases f <;> simp [sign, letter, digit] <;> omega
    have k0 : ¬ 97 ≤ c := by omega
    have k1 : ¬ 65 ≤ c := by omega
    have k2 : ¬ 48 ≤ c := by omega
    have n95 : ((c : Int) == 95) = false := by simp; omega
    have n36 : ((c : Int) == 36) = false := by simp; omega
    go_enter Tryz.func159, Tryz.ntmps159
    go_wp2_with fail
    go_ret
    rw [HS.out]
    exact ⟨by first | rfl | (simp; done) | (simp; omega), rfl⟩
  · have HS : Hid (sign c f = false) := by show _ = _; cases f <;> simp [sign, letter, digit] <;> omega
    have k0 : ¬ 97 ≤ c := by omega
    have k1 : ¬ 65 ≤ c := by omega
    have k2 : 48 ≤ c := by omega
    have k3 : ¬ c ≤ 57 := by omega
    have n95 : ((c : Int) == 95) = false := by simp; omega
    have n36 : ((c : Int) == 36) = false := by simp; omega
    go_enter Tryz.func159, Tryz.ntmps159
    go_wp2_with fail
    go_ret
    rw [HS.out]
    exact ⟨by first | rfl | (simp; done) | (simp; omega), rfl⟩
  · have HS : Hid (sign c f = false) := by show _ = _; cases f <;> simp [sign, letter, digit] <;> omega
    have k0 : ¬ 97 ≤ c := by omega
    have k1 : 65 ≤ c := by omega
    have k2 : ¬ c ≤ 90 := by omega
    have k3 : 48 ≤ c := by omega
    have k4 : ¬ c ≤ 57 := by omega
    have n95 : ((c : Int) == 95) = false := by simp; omega
    have n36 : ((c : Int) == 36) = false := by simp; omega
    go_enter Tryz.func159, Tryz.ntmps159
    go_wp2_with fail
    go_ret
    rw [HS.out]
    exact ⟨by first | rfl | (simp; done) | (simp; omega), rfl⟩
  · have HS : Hid (sign c f = false) := by show _ = _; cases f <;> simp [sign, letter, digit] <;> omega
    have k0 : 97 ≤ c := by omega
    have k1 : ¬ c ≤ 122 := by omega
    have k2 : 65 ≤ c := by omega
    have k3 : ¬ c ≤ 90 := by omega
    have k4 : 48 ≤ c := by omega
    have k5 : ¬ c ≤ 57 := by omega
    have n95 : ((c : Int) == 95) = false := by simp; omega
    have n36 : ((c : Int) == 36) = false := by simp; omega
    go_enter Tryz.func159, Tryz.ntmps159
    go_wp2_with fail
    go_ret
    rw [HS.out]
    exact ⟨by first | rfl | (simp; done) | (simp; omega), rfl⟩

theorem name_all (s : ByteArray) (h : ∀ (i c : Nat), (nl s)[i]? = some c → sign c (decide (i = 0)) = true) : isName s = (decide (1 ≤ s.size) && decide (s.size ≤ 20)) := by
  have hl := nl_length s
  unfold isName
  by_cases h0 : s.size = 0
  · have : nl s = [] := List.eq_nil_of_length_eq_zero (by omega)
    rw [this, h0]
    rfl
  by_cases h20 : 20 < s.size
  · rw [nameL_len _ (by omega), decide_eq_false (show ¬ s.size ≤ 20 by omega)]
    simp
  rw [decide_eq_true (show 1 ≤ s.size by omega), decide_eq_true (show s.size ≤ 20 by omega)]
  refine nameL_ok _ (fun e => by rw [e] at hl; simp at hl; omega) (by omega) ?_ ?_
  · obtain ⟨c, hc⟩ : ∃ c, (nl s)[0]? = some c := ⟨_, List.getElem?_eq_getElem (by omega)⟩
    have := h 0 c hc
    rw [List.getD_eq_getElem?_getD, hc]
    simp only [Option.getD_some]
    simp only [sign, decide_true, Bool.not_true, Bool.and_false, Bool.or_false] at this
    cases hd : digit c with
    | false => rfl
    | true =>
      simp only [digit, decide_eq_true_eq] at hd
      simp only [letter, decide_eq_true_eq] at this
      omega
  · rw [List.all_eq_true]
    intro c hc
    obtain ⟨i, hi⟩ := List.mem_iff_getElem?.1 hc
    have := h i c hi
    unfold sign at this
    cases hl : letter c <;> simp_all

theorem name_bad (s : ByteArray) (k c : Nat) (hk : (nl s)[k]? = some c) (h : sign c (decide (k = 0)) = false) : isName s = false := by
  by_cases h1 : (letter c || digit c) = false
  · exact nameL_bad _ k c hk h1
  · have h1 : (letter c || digit c) = true := by cases hh : (letter c || digit c) with | true => rfl | false => exact absurd hh h1
    by_cases h0 : k = 0
    · subst h0
      refine nameL_dig _ ?_
      rw [List.getD_eq_getElem?_getD, hk]
      simp only [Option.getD_some]
      simp only [sign, decide_true, Bool.not_true, Bool.and_false, Bool.or_false] at h
      rw [h] at h1
      simpa using h1
    · rw [decide_eq_false h0] at h
      simp only [sign, Bool.not_false, Bool.and_true] at h
      rw [h] at h1
      simp at h1

set_option maxRecDepth 100000 in
theorem docName_any (w : World) (s : ByteArray) (hs : s.size ≤ 1099511627776) : Calls Tryz.prog 134 #[.string s] w fun e w' => e = .returned (.bool (isName s)) ∧ w' = w := by
  go_enter Tryz.func134, Tryz.ntmps134
  go_wp2_with fail
  go_loop [3] (fun i => ∃ (k : Nat), i = .int .i64 (k : Int) ∧ k ≤ s.size ∧ (∀ (j c : Nat), j < k → (nl s)[j]? = some c → sign c (decide (j = 0)) = true)) (fun i => s.size - (intOf i).toNat)
  case atStart => exact ⟨0, rfl, Nat.zero_le _, fun j c hj => absurd hj (by omega)⟩
  case round =>
    obtain ⟨k, rfl, hk, hall⟩ := hrel
    have HA : Hid (∀ (j c : Nat), j < k → (nl s)[j]? = some c → sign c (decide (j = 0)) = true) := hall
    clear hall
    by_cases hlt : k < s.size
    · have hc : (nl s)[k]? = some s[k].toNat := nl_get s k hlt
      have HC : Hid ((nl s)[k]? = some s[k].toNat) := hc
      clear hc
      have L := docLetter_any w s[k].toNat (decide (k = 0))
      have e0 : ((k : Int) == 0) = decide (k = 0) := by by_cases h : k = 0 <;> simp [h]
      generalize hcv : s[k].toNat = c at *
      by_cases hsg : sign c (decide (k = 0)) = true
      · rw [hsg] at L
        have STEP : Hid (∀ (j c : Nat), j < k + 1 → (nl s)[j]? = some c → sign c (decide (j = 0)) = true) := fun j c' hj hc => by
          by_cases hjk : j < k
          · exact HA.out j c' hjk hc
          · obtain rfl : j = k := by omega
            rw [HC.out] at hc
            simp only [Option.some.injEq] at hc
            subst hc
            exact hsg
        generalize hdk : decide (k = 0) = dk at *
        clear hsg hdk
        go_wp2_with fail
        refine L.mono ?_
        rintro e w1 ⟨rfl, rfl⟩
        go_wp2_with fail
        go_round
        case rel => exact ⟨k + 1, by go_num, by omega, STEP.out⟩
        case measure => simp [intOf]; omega
      · have hsg' : sign c (decide (k = 0)) = false := by simpa using hsg
        rw [hsg'] at L
        have HN : Hid (isName s = false) := name_bad s k c HC.out hsg'
        generalize hdk : decide (k = 0) = dk at *
        clear hsg hsg' hdk
        go_wp2_with fail
        refine L.mono ?_
        rintro e w1 ⟨rfl, rfl⟩
        go_wp2_with fail
        go_ret
        rw [HN.out]
        exact ⟨rfl, rfl⟩
    · have HN : Hid (isName s = (decide (1 ≤ s.size) && decide (s.size ≤ 20))) := name_all s (fun i c hi => HA.out i c (by have := (List.getElem?_eq_some_iff.1 hi).1; rw [nl_length] at this; omega) hi)
      by_cases h1 : 1 ≤ s.size
      · go_wp2_with fail
        go_ret
        rw [HN.out]
        exact ⟨by rw [decide_eq_true h1]; simp; omega, rfl⟩
      · go_wp2_with fail
        go_ret
        rw [HN.out]
        exact ⟨by rw [decide_eq_false h1]; simp, rfl⟩

theorem docType_any (w : World) (t : Ty) (void : Bool) (hs : t.c.size ≤ 1099511627776) : Calls Tryz.prog 136 #[tyV t, .bool void] w fun e w' => e = .returned (.bool (isType t void)) ∧ Fr no w w' := by
  obtain ⟨k, c⟩ := t
  unfold tyV
  simp only [] at *
  have HF : Hid (Fr no w (w.alloc (.cells #[.int .i64 k, .string c] 46))) := (Fr.refl no w).alloc _ _
  by_cases h4 : k = 4
  · subst h4
    have I := docName_any (w.alloc (.cells #[.int .i64 4, .string c] 46)) c hs
    have HE : Hid (isType ⟨4, c⟩ void = isName c) := by show _ = _; unfold isType; rw [if_pos rfl]
    go_enter Tryz.func136, Tryz.ntmps136
    go_wp2_with fail
    refine I.mono ?_
    rintro e w1 ⟨rfl, rfl⟩
    go_wp2_with fail
    go_ret
    rw [HE.out]
    exact ⟨rfl, HF.out⟩
  · have q4 : (k == 4) = false := by simpa using h4
    by_cases h1 : k = 1
    · subst h1
      have HE : Hid (isType ⟨1, c⟩ void = c.toList.isEmpty) := by show _ = _; unfold isType; rw [if_neg h4, if_pos (.inl rfl), emp]
      go_enter Tryz.func136, Tryz.ntmps136
      go_wp2_with fail
      go_ret
      rw [HE.out]
      exact ⟨rfl, HF.out⟩
    · have q1 : (k == 1) = false := by simpa using h1
      by_cases h2 : k = 2
      · subst h2
        have HE : Hid (isType ⟨2, c⟩ void = c.toList.isEmpty) := by show _ = _; unfold isType; rw [if_neg h4, if_pos (.inr (.inl rfl)), emp]
        go_enter Tryz.func136, Tryz.ntmps136
        go_wp2_with fail
        go_ret
        rw [HE.out]
        exact ⟨rfl, HF.out⟩
      · have q2 : (k == 2) = false := by simpa using h2
        by_cases h3 : k = 3
        · subst h3
          have HE : Hid (isType ⟨3, c⟩ void = c.toList.isEmpty) := by show _ = _; unfold isType; rw [if_neg h4, if_pos (.inr (.inr rfl)), emp]
          go_enter Tryz.func136, Tryz.ntmps136
          go_wp2_with fail
          go_ret
          rw [HE.out]
          exact ⟨rfl, HF.out⟩
        · have q3 : (k == 3) = false := by simpa using h3
          by_cases h0 : k = 0
          · subst h0
            have HE : Hid (isType ⟨0, c⟩ void = (void && c.toList.isEmpty)) := by show _ = _; unfold isType; rw [if_neg h4, if_neg (by simp), if_pos rfl, emp]
            cases void with
            | true =>
              go_enter Tryz.func136, Tryz.ntmps136
              go_wp2_with fail
              go_ret
              rw [HE.out]
              exact ⟨rfl, HF.out⟩
            | false =>
              go_enter Tryz.func136, Tryz.ntmps136
              go_wp2_with fail
              go_ret
              rw [HE.out]
              exact ⟨rfl, HF.out⟩
          · have q0 : (k == 0) = false := by simpa using h0
            have HE : Hid (isType ⟨k, c⟩ void = false) := by show _ = _; unfold isType; simp only []; rw [if_neg h4, if_neg (by omega), if_neg h0]
            go_enter Tryz.func136, Tryz.ntmps136
            go_wp2_with fail
            go_ret
            rw [HE.out]
            exact ⟨rfl, HF.out⟩

end Go.Proofs.YthncdbobjeeeaaaGreatDoor

/- What a constant is: the document's answers. -/
namespace Go.Proofs.YthncdbobjeeeaaaGreatDoor
open Go.ChangeShapes Go.WideShapes Go.ChangeAt Go.RowKit

theorem cells5y {w : World} {r : Nat} {a b c d e : Value} {t : TypeId} (h : w.heap[r]? = some (.cells #[a, b, c, d, e] t (0, 0))) : (w.cell? ⟨r, 0, none⟩ = some a ∧ w.cell? ⟨r, 1, none⟩ = some b ∧ w.cell? ⟨r, 2, none⟩ = some c ∧ w.cell? ⟨r, 3, none⟩ = some d ∧ w.cell? ⟨r, 4, none⟩ = some e) ∧ True := by
  refine ⟨⟨?_, ?_, ?_, ?_, ?_⟩, trivial⟩ <;> simp [World.cell?, h]

set_option maxRecDepth 100000 in
set_option maxHeartbeats 4000000 in
theorem docConst_any (w : World) (x : Cs) (hc : x.c.size ≤ 1099511627776) (hm : x.m.size ≤ 1099511627776) : Calls Tryz.prog 135 #[csV x] w fun e w' => e = .returned (.int .i64 (ckCs x : Int)) ∧ Fr no w w' := by
  obtain ⟨k, n, re, im, c, m⟩ := x
  unfold csV
  simp only [] at *
  have HF : Hid (Fr no w (w.alloc (.cells #[.int .i64 k, .int .i64 n, .complex .f64 re im, .string c, .string m] 39))) := (Fr.refl no w).alloc _ _
  generalize hW : w.alloc (.cells #[.int .i64 k, .int .i64 n, .complex .f64 re im, .string c, .string m] 39) = W at *
  have hb := heap_alloc_new w (.cells #[.int .i64 k, .int .i64 n, .complex .f64 re im, .string c, .string m] 39)
  rw [hW] at hb
  obtain ⟨⟨b0, b1, b2, b3, b4⟩, -⟩ := cells5y hb
  clear hb
  have B := bits_any re im W
  have NC := docName_any W c hc
  have NM := docName_any W m hm
  have HP : Hid (ckCs ⟨k, n, re, im, c, m⟩ = ckCs ⟨k, n, re, im, c, m⟩) := rfl
  by_cases hre : re = 0
  · subst hre
    by_cases him : im = 0
    · subst him
      by_cases hk1 : k = 1
      · subst hk1
        by_cases hce : c = e0
        · have qc := emp_eq c hce
          have rc : c.toList.isEmpty = true := by rw [qc]; rfl
          by_cases hme : m = e0
          · have qm := emp_eq m hme
            have rm : m.toList.isEmpty = true := by rw [qm]; rfl
            have HE : Hid (ckCs ⟨1, n, 0, 0, c, m⟩ = 0) := by show _ = _; unfold ckCs; simp [hce, hme]
            clear hce hme
            go_enter Tryz.func135, Tryz.ntmps135
            go_wp2_with fail
            refine B.mono ?_
            rintro e w1 ⟨rfl, rfl⟩
            go_wp2_with fail
            go_ret
            rw [HE.out]
            exact ⟨rfl, HF.out⟩
          · have qm := emp_ne m hme
            have rm := emp_false m hme
            have HE : Hid (ckCs ⟨1, n, 0, 0, c, m⟩ = 51) := by show _ = _; unfold ckCs; simp [hce, hme]
            clear hce hme
            go_enter Tryz.func135, Tryz.ntmps135
            go_wp2_with fail
            refine B.mono ?_
            rintro e w1 ⟨rfl, rfl⟩
            go_wp2_with fail
            go_ret
            rw [HE.out]
            exact ⟨rfl, HF.out⟩
        · have qc := emp_ne c hce
          have rc := emp_false c hce
          have HE : Hid (ckCs ⟨1, n, 0, 0, c, m⟩ = 51) := by show _ = _; unfold ckCs; simp [hce]
          clear hce
          go_enter Tryz.func135, Tryz.ntmps135
          go_wp2_with fail
          refine B.mono ?_
          rintro e w1 ⟨rfl, rfl⟩
          go_wp2_with fail
          go_ret
          rw [HE.out]
          exact ⟨rfl, HF.out⟩
      have j1 : (k == 1) = false := by simpa using hk1
      by_cases hk2 : k = 2
      · subst hk2
        by_cases hn : n = 0
        · subst hn
          by_cases hce : c = e0
          · have qc := emp_eq c hce
            have rc : c.toList.isEmpty = true := by rw [qc]; rfl
            by_cases hme : m = e0
            · have qm := emp_eq m hme
              have rm : m.toList.isEmpty = true := by rw [qm]; rfl
              have HE : Hid (ckCs ⟨2, 0, 0, 0, c, m⟩ = 0) := by show _ = _; unfold ckCs; simp [hce, hme]
              clear hce hme
              go_enter Tryz.func135, Tryz.ntmps135
              go_wp2_with fail
              refine B.mono ?_
              rintro e w1 ⟨rfl, rfl⟩
              go_wp2_with fail
              go_ret
              rw [HE.out]
              exact ⟨rfl, HF.out⟩
            · have qm := emp_ne m hme
              have rm := emp_false m hme
              have HE : Hid (ckCs ⟨2, 0, 0, 0, c, m⟩ = 51) := by show _ = _; unfold ckCs; simp [hce, hme]
              clear hce hme
              go_enter Tryz.func135, Tryz.ntmps135
              go_wp2_with fail
              refine B.mono ?_
              rintro e w1 ⟨rfl, rfl⟩
              go_wp2_with fail
              go_ret
              rw [HE.out]
              exact ⟨rfl, HF.out⟩
          · have qc := emp_ne c hce
            have rc := emp_false c hce
            have HE : Hid (ckCs ⟨2, 0, 0, 0, c, m⟩ = 51) := by show _ = _; unfold ckCs; simp [hce]
            clear hce
            go_enter Tryz.func135, Tryz.ntmps135
            go_wp2_with fail
            refine B.mono ?_
            rintro e w1 ⟨rfl, rfl⟩
            go_wp2_with fail
            go_ret
            rw [HE.out]
            exact ⟨rfl, HF.out⟩
        · have hn' : (n == 0) = false := by simpa using hn
          have HE : Hid (ckCs ⟨2, n, 0, 0, c, m⟩ = 51) := by show _ = _; unfold ckCs; simp [hn]
          go_enter Tryz.func135, Tryz.ntmps135
          go_wp2_with fail
          refine B.mono ?_
          rintro e w1 ⟨rfl, rfl⟩
          go_wp2_with fail
          go_ret
          rw [HE.out]
          exact ⟨rfl, HF.out⟩
      have j2 : (k == 2) = false := by simpa using hk2
      by_cases hk3 : k = 3
      · subst hk3
        by_cases hn : n = 0
        · subst hn
          by_cases hme : m = e0
          · have qm := emp_eq m hme
            have rm : m.toList.isEmpty = true := by rw [qm]; rfl
            by_cases hnc : isName c = true
            · rw [hnc] at NC
              have HE : Hid (ckCs ⟨3, 0, 0, 0, c, m⟩ = 0) := by show _ = _; unfold ckCs; simp [hme, hnc]
              clear hme
              go_enter Tryz.func135, Tryz.ntmps135
              go_wp2_with fail
              refine B.mono ?_
              rintro e w1 ⟨rfl, rfl⟩
              go_wp2_with fail
              refine NC.mono ?_
              rintro e w1 ⟨rfl, rfl⟩
              go_wp2_with fail
              go_ret
              rw [HE.out]
              exact ⟨rfl, HF.out⟩
            · have hnc' : isName c = false := by simpa using hnc
              rw [hnc'] at NC
              have HE : Hid (ckCs ⟨3, 0, 0, 0, c, m⟩ = 50) := by show _ = _; unfold ckCs; simp [hme, hnc']
              clear hme
              go_enter Tryz.func135, Tryz.ntmps135
              go_wp2_with fail
              refine B.mono ?_
              rintro e w1 ⟨rfl, rfl⟩
              go_wp2_with fail
              refine NC.mono ?_
              rintro e w1 ⟨rfl, rfl⟩
              go_wp2_with fail
              go_ret
              rw [HE.out]
              exact ⟨rfl, HF.out⟩
          · have qm := emp_ne m hme
            have rm := emp_false m hme
            have HE : Hid (ckCs ⟨3, 0, 0, 0, c, m⟩ = 51) := by show _ = _; unfold ckCs; simp [hme]
            clear hme
            go_enter Tryz.func135, Tryz.ntmps135
            go_wp2_with fail
            refine B.mono ?_
            rintro e w1 ⟨rfl, rfl⟩
            go_wp2_with fail
            go_ret
            rw [HE.out]
            exact ⟨rfl, HF.out⟩
        · have hn' : (n == 0) = false := by simpa using hn
          have HE : Hid (ckCs ⟨3, n, 0, 0, c, m⟩ = 51) := by show _ = _; unfold ckCs; simp [hn]
          go_enter Tryz.func135, Tryz.ntmps135
          go_wp2_with fail
          refine B.mono ?_
          rintro e w1 ⟨rfl, rfl⟩
          go_wp2_with fail
          go_ret
          rw [HE.out]
          exact ⟨rfl, HF.out⟩
      have j3 : (k == 3) = false := by simpa using hk3
      by_cases hk4 : k = 4
      · subst hk4
        by_cases hn : n = 0
        · subst hn
          by_cases hnc : isName c = true
          · rw [hnc] at NC
            by_cases hnm : isName m = true
            · rw [hnm] at NM
              have HE : Hid (ckCs ⟨4, 0, 0, 0, c, m⟩ = 0) := by show _ = _; unfold ckCs; simp [hnc, hnm]
              go_enter Tryz.func135, Tryz.ntmps135
              go_wp2_with fail
              refine B.mono ?_
              rintro e w1 ⟨rfl, rfl⟩
              go_wp2_with fail
              refine NC.mono ?_
              rintro e w1 ⟨rfl, rfl⟩
              go_wp2_with fail
              refine NM.mono ?_
              rintro e w1 ⟨rfl, rfl⟩
              go_wp2_with fail
              go_ret
              rw [HE.out]
              exact ⟨rfl, HF.out⟩
            · have hnm' : isName m = false := by simpa using hnm
              rw [hnm'] at NM
              have HE : Hid (ckCs ⟨4, 0, 0, 0, c, m⟩ = 50) := by show _ = _; unfold ckCs; simp [hnc, hnm']
              go_enter Tryz.func135, Tryz.ntmps135
              go_wp2_with fail
              refine B.mono ?_
              rintro e w1 ⟨rfl, rfl⟩
              go_wp2_with fail
              refine NC.mono ?_
              rintro e w1 ⟨rfl, rfl⟩
              go_wp2_with fail
              refine NM.mono ?_
              rintro e w1 ⟨rfl, rfl⟩
              go_wp2_with fail
              go_ret
              rw [HE.out]
              exact ⟨rfl, HF.out⟩
          · have hnc' : isName c = false := by simpa using hnc
            rw [hnc'] at NC
            have HE : Hid (ckCs ⟨4, 0, 0, 0, c, m⟩ = 50) := by show _ = _; unfold ckCs; simp [hnc']
            go_enter Tryz.func135, Tryz.ntmps135
            go_wp2_with fail
            refine B.mono ?_
            rintro e w1 ⟨rfl, rfl⟩
            go_wp2_with fail
            refine NC.mono ?_
            rintro e w1 ⟨rfl, rfl⟩
            go_wp2_with fail
            go_ret
            rw [HE.out]
            exact ⟨rfl, HF.out⟩
        · have hn' : (n == 0) = false := by simpa using hn
          have HE : Hid (ckCs ⟨4, n, 0, 0, c, m⟩ = 51) := by show _ = _; unfold ckCs; simp [hn]
          go_enter Tryz.func135, Tryz.ntmps135
          go_wp2_with fail
          refine B.mono ?_
          rintro e w1 ⟨rfl, rfl⟩
          go_wp2_with fail
          go_ret
          rw [HE.out]
          exact ⟨rfl, HF.out⟩
      have j4 : (k == 4) = false := by simpa using hk4
      by_cases hk5 : k = 5
      · subst hk5
        by_cases hn : n = 0
        · subst hn
          by_cases hnc : isName c = true
          · rw [hnc] at NC
            by_cases hnm : isName m = true
            · rw [hnm] at NM
              have HE : Hid (ckCs ⟨5, 0, 0, 0, c, m⟩ = 0) := by show _ = _; unfold ckCs; simp [hnc, hnm]
              go_enter Tryz.func135, Tryz.ntmps135
              go_wp2_with fail
              refine B.mono ?_
              rintro e w1 ⟨rfl, rfl⟩
              go_wp2_with fail
              refine NC.mono ?_
              rintro e w1 ⟨rfl, rfl⟩
              go_wp2_with fail
              refine NM.mono ?_
              rintro e w1 ⟨rfl, rfl⟩
              go_wp2_with fail
              go_ret
              rw [HE.out]
              exact ⟨rfl, HF.out⟩
            · have hnm' : isName m = false := by simpa using hnm
              rw [hnm'] at NM
              have HE : Hid (ckCs ⟨5, 0, 0, 0, c, m⟩ = 50) := by show _ = _; unfold ckCs; simp [hnc, hnm']
              go_enter Tryz.func135, Tryz.ntmps135
              go_wp2_with fail
              refine B.mono ?_
              rintro e w1 ⟨rfl, rfl⟩
              go_wp2_with fail
              refine NC.mono ?_
              rintro e w1 ⟨rfl, rfl⟩
              go_wp2_with fail
              refine NM.mono ?_
              rintro e w1 ⟨rfl, rfl⟩
              go_wp2_with fail
              go_ret
              rw [HE.out]
              exact ⟨rfl, HF.out⟩
          · have hnc' : isName c = false := by simpa using hnc
            rw [hnc'] at NC
            have HE : Hid (ckCs ⟨5, 0, 0, 0, c, m⟩ = 50) := by show _ = _; unfold ckCs; simp [hnc']
            go_enter Tryz.func135, Tryz.ntmps135
            go_wp2_with fail
            refine B.mono ?_
            rintro e w1 ⟨rfl, rfl⟩
            go_wp2_with fail
            refine NC.mono ?_
            rintro e w1 ⟨rfl, rfl⟩
            go_wp2_with fail
            go_ret
            rw [HE.out]
            exact ⟨rfl, HF.out⟩
        · have hn' : (n == 0) = false := by simpa using hn
          have HE : Hid (ckCs ⟨5, n, 0, 0, c, m⟩ = 51) := by show _ = _; unfold ckCs; simp [hn]
          go_enter Tryz.func135, Tryz.ntmps135
          go_wp2_with fail
          refine B.mono ?_
          rintro e w1 ⟨rfl, rfl⟩
          go_wp2_with fail
          go_ret
          rw [HE.out]
          exact ⟨rfl, HF.out⟩
      have j5 : (k == 5) = false := by simpa using hk5
      have HE : Hid (ckCs ⟨k, n, 0, 0, c, m⟩ = 51) := by show _ = _; unfold ckCs; simp [hk1, hk2, hk3, hk4, hk5]
      go_enter Tryz.func135, Tryz.ntmps135
      go_wp2_with fail
      refine B.mono ?_
      rintro e w1 ⟨rfl, rfl⟩
      go_wp2_with fail
      go_ret
      rw [HE.out]
      exact ⟨rfl, HF.out⟩
    · have him' : ((im : Int) == 0) = false := by simp; omega
      by_cases hk1 : k = 1
      · subst hk1
        have HE : Hid (ckCs ⟨1, n, 0, im, c, m⟩ = 51) := by show _ = _; unfold ckCs; simp [him]
        go_enter Tryz.func135, Tryz.ntmps135
        go_wp2_with fail
        refine B.mono ?_
        rintro e w1 ⟨rfl, rfl⟩
        go_wp2_with fail
        go_ret
        rw [HE.out]
        exact ⟨rfl, HF.out⟩
      have j1 : (k == 1) = false := by simpa using hk1
      by_cases hk2 : k = 2
      · subst hk2
        by_cases hn : n = 0
        · subst hn
          by_cases hce : c = e0
          · have qc := emp_eq c hce
            have rc : c.toList.isEmpty = true := by rw [qc]; rfl
            by_cases hme : m = e0
            · have qm := emp_eq m hme
              have rm : m.toList.isEmpty = true := by rw [qm]; rfl
              have HE : Hid (ckCs ⟨2, 0, 0, im, c, m⟩ = 0) := by show _ = _; unfold ckCs; simp [hce, hme]
              clear hce hme
              go_enter Tryz.func135, Tryz.ntmps135
              go_wp2_with fail
              refine B.mono ?_
              rintro e w1 ⟨rfl, rfl⟩
              go_wp2_with fail
              go_ret
              rw [HE.out]
              exact ⟨rfl, HF.out⟩
            · have qm := emp_ne m hme
              have rm := emp_false m hme
              have HE : Hid (ckCs ⟨2, 0, 0, im, c, m⟩ = 51) := by show _ = _; unfold ckCs; simp [hce, hme]
              clear hce hme
              go_enter Tryz.func135, Tryz.ntmps135
              go_wp2_with fail
              refine B.mono ?_
              rintro e w1 ⟨rfl, rfl⟩
              go_wp2_with fail
              go_ret
              rw [HE.out]
              exact ⟨rfl, HF.out⟩
          · have qc := emp_ne c hce
            have rc := emp_false c hce
            have HE : Hid (ckCs ⟨2, 0, 0, im, c, m⟩ = 51) := by show _ = _; unfold ckCs; simp [hce]
            clear hce
            go_enter Tryz.func135, Tryz.ntmps135
            go_wp2_with fail
            refine B.mono ?_
            rintro e w1 ⟨rfl, rfl⟩
            go_wp2_with fail
            go_ret
            rw [HE.out]
            exact ⟨rfl, HF.out⟩
        · have hn' : (n == 0) = false := by simpa using hn
          have HE : Hid (ckCs ⟨2, n, 0, im, c, m⟩ = 51) := by show _ = _; unfold ckCs; simp [hn]
          go_enter Tryz.func135, Tryz.ntmps135
          go_wp2_with fail
          refine B.mono ?_
          rintro e w1 ⟨rfl, rfl⟩
          go_wp2_with fail
          go_ret
          rw [HE.out]
          exact ⟨rfl, HF.out⟩
      have j2 : (k == 2) = false := by simpa using hk2
      by_cases hk3 : k = 3
      · subst hk3
        have HE : Hid (ckCs ⟨3, n, 0, im, c, m⟩ = 51) := by show _ = _; unfold ckCs; simp [him]
        go_enter Tryz.func135, Tryz.ntmps135
        go_wp2_with fail
        refine B.mono ?_
        rintro e w1 ⟨rfl, rfl⟩
        go_wp2_with fail
        go_ret
        rw [HE.out]
        exact ⟨rfl, HF.out⟩
      have j3 : (k == 3) = false := by simpa using hk3
      by_cases hk4 : k = 4
      · subst hk4
        have HE : Hid (ckCs ⟨4, n, 0, im, c, m⟩ = 51) := by show _ = _; unfold ckCs; simp [him]
        go_enter Tryz.func135, Tryz.ntmps135
        go_wp2_with fail
        refine B.mono ?_
        rintro e w1 ⟨rfl, rfl⟩
        go_wp2_with fail
        go_ret
        rw [HE.out]
        exact ⟨rfl, HF.out⟩
      have j4 : (k == 4) = false := by simpa using hk4
      by_cases hk5 : k = 5
      · subst hk5
        have HE : Hid (ckCs ⟨5, n, 0, im, c, m⟩ = 51) := by show _ = _; unfold ckCs; simp [him]
        go_enter Tryz.func135, Tryz.ntmps135
        go_wp2_with fail
        refine B.mono ?_
        rintro e w1 ⟨rfl, rfl⟩
        go_wp2_with fail
        go_ret
        rw [HE.out]
        exact ⟨rfl, HF.out⟩
      have j5 : (k == 5) = false := by simpa using hk5
      have HE : Hid (ckCs ⟨k, n, 0, im, c, m⟩ = 51) := by show _ = _; unfold ckCs; simp [hk1, hk2, hk3, hk4, hk5]
      go_enter Tryz.func135, Tryz.ntmps135
      go_wp2_with fail
      refine B.mono ?_
      rintro e w1 ⟨rfl, rfl⟩
      go_wp2_with fail
      go_ret
      rw [HE.out]
      exact ⟨rfl, HF.out⟩
  · have hre' : ((re : Int) == 0) = false := by simp; omega
    by_cases hk1 : k = 1
    · subst hk1
      have HE : Hid (ckCs ⟨1, n, re, im, c, m⟩ = 51) := by show _ = _; unfold ckCs; simp [hre]
      go_enter Tryz.func135, Tryz.ntmps135
      go_wp2_with fail
      refine B.mono ?_
      rintro e w1 ⟨rfl, rfl⟩
      go_wp2_with fail
      go_ret
      rw [HE.out]
      exact ⟨rfl, HF.out⟩
    have j1 : (k == 1) = false := by simpa using hk1
    by_cases hk2 : k = 2
    · subst hk2
      by_cases hn : n = 0
      · subst hn
        by_cases hce : c = e0
        · have qc := emp_eq c hce
          have rc : c.toList.isEmpty = true := by rw [qc]; rfl
          by_cases hme : m = e0
          · have qm := emp_eq m hme
            have rm : m.toList.isEmpty = true := by rw [qm]; rfl
            have HE : Hid (ckCs ⟨2, 0, re, im, c, m⟩ = 0) := by show _ = _; unfold ckCs; simp [hce, hme]
            clear hce hme
            go_enter Tryz.func135, Tryz.ntmps135
            go_wp2_with fail
            refine B.mono ?_
            rintro e w1 ⟨rfl, rfl⟩
            go_wp2_with fail
            go_ret
            rw [HE.out]
            exact ⟨rfl, HF.out⟩
          · have qm := emp_ne m hme
            have rm := emp_false m hme
            have HE : Hid (ckCs ⟨2, 0, re, im, c, m⟩ = 51) := by show _ = _; unfold ckCs; simp [hce, hme]
            clear hce hme
            go_enter Tryz.func135, Tryz.ntmps135
            go_wp2_with fail
            refine B.mono ?_
            rintro e w1 ⟨rfl, rfl⟩
            go_wp2_with fail
            go_ret
            rw [HE.out]
            exact ⟨rfl, HF.out⟩
        · have qc := emp_ne c hce
          have rc := emp_false c hce
          have HE : Hid (ckCs ⟨2, 0, re, im, c, m⟩ = 51) := by show _ = _; unfold ckCs; simp [hce]
          clear hce
          go_enter Tryz.func135, Tryz.ntmps135
          go_wp2_with fail
          refine B.mono ?_
          rintro e w1 ⟨rfl, rfl⟩
          go_wp2_with fail
          go_ret
          rw [HE.out]
          exact ⟨rfl, HF.out⟩
      · have hn' : (n == 0) = false := by simpa using hn
        have HE : Hid (ckCs ⟨2, n, re, im, c, m⟩ = 51) := by show _ = _; unfold ckCs; simp [hn]
        go_enter Tryz.func135, Tryz.ntmps135
        go_wp2_with fail
        refine B.mono ?_
        rintro e w1 ⟨rfl, rfl⟩
        go_wp2_with fail
        go_ret
        rw [HE.out]
        exact ⟨rfl, HF.out⟩
    have j2 : (k == 2) = false := by simpa using hk2
    by_cases hk3 : k = 3
    · subst hk3
      have HE : Hid (ckCs ⟨3, n, re, im, c, m⟩ = 51) := by show _ = _; unfold ckCs; simp [hre]
      go_enter Tryz.func135, Tryz.ntmps135
      go_wp2_with fail
      refine B.mono ?_
      rintro e w1 ⟨rfl, rfl⟩
      go_wp2_with fail
      go_ret
      rw [HE.out]
      exact ⟨rfl, HF.out⟩
    have j3 : (k == 3) = false := by simpa using hk3
    by_cases hk4 : k = 4
    · subst hk4
      have HE : Hid (ckCs ⟨4, n, re, im, c, m⟩ = 51) := by show _ = _; unfold ckCs; simp [hre]
      go_enter Tryz.func135, Tryz.ntmps135
      go_wp2_with fail
      refine B.mono ?_
      rintro e w1 ⟨rfl, rfl⟩
      go_wp2_with fail
      go_ret
      rw [HE.out]
      exact ⟨rfl, HF.out⟩
    have j4 : (k == 4) = false := by simpa using hk4
    by_cases hk5 : k = 5
    · subst hk5
      have HE : Hid (ckCs ⟨5, n, re, im, c, m⟩ = 51) := by show _ = _; unfold ckCs; simp [hre]
      go_enter Tryz.func135, Tryz.ntmps135
      go_wp2_with fail
      refine B.mono ?_
      rintro e w1 ⟨rfl, rfl⟩
      go_wp2_with fail
      go_ret
      rw [HE.out]
      exact ⟨rfl, HF.out⟩
    have j5 : (k == 5) = false := by simpa using hk5
    have HE : Hid (ckCs ⟨k, n, re, im, c, m⟩ = 51) := by show _ = _; unfold ckCs; simp [hk1, hk2, hk3, hk4, hk5]
    go_enter Tryz.func135, Tryz.ntmps135
    go_wp2_with fail
    refine B.mono ?_
    rintro e w1 ⟨rfl, rfl⟩
    go_wp2_with fail
    go_ret
    rw [HE.out]
    exact ⟨rfl, HF.out⟩
end Go.Proofs.YthncdbobjeeeaaaGreatDoor

