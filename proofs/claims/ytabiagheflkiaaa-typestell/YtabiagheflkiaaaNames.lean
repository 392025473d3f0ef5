/- What a name is: the program's answer, and the document's. -/
import Derived.Test.YtabiagheflkiaaaMem
import Derived.Test.YtabiagheflkiaaaScope
import Derived.Laws.Strings
namespace Go.Proofs.Ytabiagheflkiaaa
open Go.ChangeShapes Go.WideShapes Go.ChangeAt Go.RowKit

def nl (s : ByteArray) : List Nat := s.data.toList.map UInt8.toNat
theorem nl_length (s : ByteArray) : (nl s).length = s.size := by simp [nl]
theorem nl_get (s : ByteArray) (k : Nat) (h : k < s.size) : (nl s)[k]? = some s[k].toNat := by
  unfold nl
  have h' : k < s.data.toList.length := by simpa using h
  rw [List.getElem?_map, List.getElem?_eq_getElem h']
  rfl
def letter (c : Nat) : Bool := decide (97 ≤ c ∧ c ≤ 122 ∨ 65 ≤ c ∧ c ≤ 90 ∨ c = 95 ∨ c = 36)
def digit (c : Nat) : Bool := decide (48 ≤ c ∧ c ≤ 57)

/-- Whether these bytes are a name. -/
def nameL (l : List Nat) : Bool := decide (l ≠ []) && decide (l.length ≤ 20) && !digit (l.getD 0 0) && l.all fun c => letter c || digit c
def isName (s : ByteArray) : Bool := nameL (nl s)

theorem isDigit_any (w : World) (c : Nat) : Calls Try.prog 41 #[.int .u8 (c : Int)] w fun e w' => e = .returned (.bool (digit c)) ∧ w' = w := by
  by_cases h1 : 48 ≤ c
  · by_cases h2 : c ≤ 57
    · rw [show digit c = true by simp [digit]; omega]
      go_enter Try.func41, Try.ntmps41
      go_wp2_with fail
      go_ret
      exact ⟨by simp; omega, rfl⟩
    · rw [show digit c = false by simp [digit]; omega]
      go_enter Try.func41, Try.ntmps41
      go_wp2_with fail
      go_ret
      exact ⟨by simp; omega, rfl⟩
  · rw [show digit c = false by simp [digit]; omega]
    go_enter Try.func41, Try.ntmps41
    go_wp2_with fail
    go_ret
    exact ⟨rfl, rfl⟩

theorem isLetter_any (w : World) (c : Nat) : Calls Try.prog 42 #[.int .u8 (c : Int)] w fun e w' => e = .returned (.bool (letter c)) ∧ w' = w := by
  rcases (show (97 ≤ c ∧ c ≤ 122) ∨ (65 ≤ c ∧ c ≤ 90) ∨ c = 95 ∨ c = 36 ∨ (c < 65 ∧ c ≠ 36) ∨ (90 < c ∧ c < 97 ∧ c ≠ 95) ∨ 122 < c by omega) with ⟨h1, h2⟩ | ⟨h1, h2⟩ | h1 | h1 | ⟨h1, h2⟩ | ⟨h1, h2, h3⟩ | h1
  · rw [show letter c = true by simp [letter]; omega]
    go_enter Try.func42, Try.ntmps42
    go_wp2_with fail
    go_ret
    exact ⟨rfl, rfl⟩
  · rw [show letter c = true by simp [letter]; omega]
    have h3 : ¬ 97 ≤ c := by omega
    go_enter Try.func42, Try.ntmps42
    go_wp2_with fail
    go_ret
    exact ⟨rfl, rfl⟩
  · subst h1
    go_enter Try.func42, Try.ntmps42
    go_wp2_with fail
    go_ret
    exact ⟨rfl, rfl⟩
  · subst h1
    go_enter Try.func42, Try.ntmps42
    go_wp2_with fail
    go_ret
    exact ⟨rfl, rfl⟩
  · rw [show letter c = false by simp [letter]; omega]
    have h3 : ¬ 97 ≤ c := by omega
    have h4 : ¬ 65 ≤ c := by omega
    have h5 : ((c : Int) == 95) = false := by simp; omega
    have h6 : ((c : Int) == 36) = false := by simp; omega
    go_enter Try.func42, Try.ntmps42
    go_wp2_with fail
    go_ret
    exact ⟨rfl, rfl⟩
  · rw [show letter c = false by simp [letter]; omega]
    have h3 : ¬ 97 ≤ c := by omega
    have h4 : ¬ c ≤ 90 := by omega
    have h5 : ((c : Int) == 95) = false := by simp; omega
    have h6 : ((c : Int) == 36) = false := by simp; omega
    go_enter Try.func42, Try.ntmps42
    go_wp2_with fail
    go_ret
    exact ⟨by simp; omega, rfl⟩
  · rw [show letter c = false by simp [letter]; omega]
    have h3 : ¬ c ≤ 122 := by omega
    have h4 : ¬ c ≤ 90 := by omega
    have h5 : ((c : Int) == 95) = false := by simp; omega
    have h6 : ((c : Int) == 36) = false := by simp; omega
    go_enter Try.func42, Try.ntmps42
    go_wp2_with fail
    go_ret
    exact ⟨by simp; omega, rfl⟩

def NameAt (w0 : World) (s : ByteArray) (a : Act) (w : World) : Prop :=
  ∃ (k : Nat) (u1 u2 u3 u4 u5 u6 u7 u8 u9 u10 u11 u12 u13 u14 u15 u16 u17 u18 u19 u20 u21 u22 u23 u24 u25 u26 u27 u28 u29 u30 u31 u32 u33 : Value), a = { tmps := #[.string s, u1, u2, u3, u4, u5, u6, u7, u8, u9, u10, u11, u12, u13, u14, u15, u16, u17, u18, u19, u20, u21, u22, u23, u24, u25, u26, u27, u28, u29, u30, u31, u32, u33], defers := [] } ∧ u3 = .int .i64 (k : Int) ∧ w = w0 ∧ k ≤ s.size ∧ s.size ≠ 0 ∧ s.size ≤ 20 ∧ digit ((nl s).getD 0 0) = false ∧ ((nl s).take k).all (fun c => letter c || digit c) = true

theorem nameL_len (l : List Nat) (h : 20 < l.length) : nameL l = false := by
  unfold nameL
  rw [decide_eq_false (show ¬ l.length ≤ 20 by omega)]
  simp
theorem nameL_dig (l : List Nat) (h : digit (l.getD 0 0) = true) : nameL l = false := by
  unfold nameL
  rw [h]
  simp
theorem nameL_bad (l : List Nat) (k c : Nat) (hk : l[k]? = some c) (h : (letter c || digit c) = false) : nameL l = false := by
  unfold nameL
  have : (l.all fun c => letter c || digit c) = false := by
    rw [List.all_eq_false]
    exact ⟨c, List.mem_of_getElem? hk, by simpa using h⟩
  rw [this]
  simp
theorem nameL_ok (l : List Nat) (h0 : l ≠ []) (h1 : l.length ≤ 20) (h2 : digit (l.getD 0 0) = false) (h3 : (l.all fun c => letter c || digit c) = true) : nameL l = true := by
  unfold nameL
  rw [h2, h3, decide_eq_true h0, decide_eq_true h1]
  rfl

theorem toList_nil (s : ByteArray) : s.toList = [] ↔ s.size = 0 := by
  rw [ByteArray.toList_eq]
  show s.data.toList = [] ↔ s.data.size = 0
  rw [← Array.length_toList]
  exact List.length_eq_zero_iff.symm

set_option maxRecDepth 100000 in
theorem isName_any (w : World) (s : ByteArray) (hs : s.size ≤ 1099511627776) : Calls Try.prog 38 #[.string s] w fun e w' => e = .returned (.bool (isName s)) ∧ w' = w := by
  go_enter Try.func38, Try.ntmps38
  go_wp2_with fail
  refine wp_label_one 0 (NameAt w s) (fun a' _ => s.size - (intOf (a'.tmps.getD 3 undef)).toNat) rfl ?_ ?_
  · intro K h0 hr hn'
    by_cases he : s.toList = []
    · have HN : Hid (isName s = false) := by
        show _ = _
        have : nl s = [] := List.eq_nil_of_length_eq_zero (by rw [nl_length]; exact (toList_nil s).1 he)
        unfold isName
        rw [this]
        rfl
      go_wp2_with fail
      refine hr _ _ ?_
      go_ret
      rw [HN.out]
      exact ⟨rfl, rfl⟩
    · have hne : s.toList.isEmpty = false := by simpa using he
      have h0s : s.size ≠ 0 := fun h => he ((toList_nil s).2 h)
      by_cases hbig : 20 < s.size
      · have HN : Hid (isName s = false) := nameL_len _ (by rw [nl_length]; exact hbig)
        go_wp2_with fail
        refine hr _ _ ?_
        go_ret
        rw [HN.out]
        exact ⟨rfl, rfl⟩
      · have hc : (nl s)[0]? = some s[0].toNat := nl_get s 0 (by omega)
        have HD : Hid ((nl s).getD 0 0 = s[0].toNat) := by show _ = _; rw [List.getD_eq_getElem?_getD, hc]; rfl
        have D := isDigit_any w s[0].toNat
        have hb20 : decide (20 < (s.size : Int)) = false := by simp; omega
        clear hc
        by_cases hdig : digit s[0].toNat = true
        · have HN : Hid (isName s = false) := nameL_dig _ (by rw [HD.out]; exact hdig)
          rw [hdig] at D
          go_wp2_with fail
          refine D.mono ?_
          rintro e w1 ⟨rfl, rfl⟩
          go_wp2_with fail
          refine hr _ _ ?_
          go_ret
          rw [HN.out]
          exact ⟨rfl, rfl⟩
        · have hdig' : digit s[0].toNat = false := by simpa using hdig
          rw [hdig'] at D
          go_wp2_with fail
          refine D.mono ?_
          rintro e w1 ⟨rfl, rfl⟩
          go_wp2_with fail
          go_step3
          rename_i hk
          exact hk _ _ (h0 _ _ ⟨0, _, _, _, _, _, _, _, _, _, _, _, _, _, _, _, _, _, _, _, _, _, _, _, _, _, _, _, _, _, _, _, _, _, rfl, rfl, rfl, Nat.zero_le _, h0s, by omega, by rw [HD.out]; exact hdig', rfl⟩)
  · rintro a' w' ⟨k, u1, u2, u3, u4, u5, u6, u7, u8, u9, u10, u11, u12, u13, u14, u15, u16, u17, u18, u19, u20, u21, u22, u23, u24, u25, u26, u27, u28, u29, u30, u31, u32, u33, rfl, rfl, rfl, hk, h0s, h20, hd, hall⟩ K hj hr hn'
    have HA : Hid (((nl s).take k).all (fun c => letter c || digit c) = true) := hall
    have HD : Hid (digit ((nl s).getD 0 0) = false) := hd
    clear hall hd
    by_cases hend : k = s.size
    · subst hend
      have HN : Hid (isName s = true) := by
        refine nameL_ok _ (fun h => h0s ?_) (by rw [nl_length]; exact h20) HD.out ?_
        · rw [← nl_length, h]; rfl
        · have := HA.out
          rwa [← nl_length, List.take_length] at this
      go_wp2_with fail
      refine hr _ _ ?_
      go_ret
      rw [HN.out]
      exact ⟨rfl, rfl⟩
    · have hlt : k < s.size := by omega
      have hne : ((k : Int) == (s.size : Int)) = false := by simp; omega
      have hc : (nl s)[k]? = some s[k].toNat := nl_get s k hlt
      have HC : Hid ((nl s)[k]? = some s[k].toNat) := hc
      have L := isLetter_any w' s[k].toNat
      have D := isDigit_any w' s[k].toNat
      clear hc
      have STEP : Hid ((letter s[k].toNat || digit s[k].toNat) = true → ((nl s).take (k + 1)).all (fun c => letter c || digit c) = true) := by
        intro h
        rw [take_next _ k _ HC.out, List.all_append, HA.out]
        simpa using h
      have BAD : Hid ((letter s[k].toNat || digit s[k].toNat) = false → isName s = false) := fun h => nameL_bad _ k _ HC.out h
      generalize hcv : s[k].toNat = c at *
      by_cases hl : letter c = true
      · rw [hl] at L
        go_wp2_with fail
        refine L.mono ?_
        rintro e w1 ⟨rfl, rfl⟩
        go_wp2_with fail
        go_step3
        refine hj _ _ ⟨k + 1, _, _, _, _, _, _, _, _, _, _, _, _, _, _, _, _, _, _, _, _, _, _, _, _, _, _, _, _, _, _, _, _, _, rfl, by go_num, rfl, by omega, h0s, h20, HD.out, STEP.out (by rw [hl]; rfl)⟩ ?_
        simp [intOf]
        omega
      · have hl' : letter c = false := by simpa using hl
        rw [hl'] at L
        by_cases hdg : digit c = true
        · rw [hdg] at D
          go_wp2_with fail
          refine L.mono ?_
          rintro e w1 ⟨rfl, rfl⟩
          go_wp2_with fail
          refine D.mono ?_
          rintro e w1 ⟨rfl, rfl⟩
          go_wp2_with fail
          go_step3
          refine hj _ _ ⟨k + 1, _, _, _, _, _, _, _, _, _, _, _, _, _, _, _, _, _, _, _, _, _, _, _, _, _, _, _, _, _, _, _, _, _, rfl, by go_num, rfl, by omega, h0s, h20, HD.out, STEP.out (by rw [hl', hdg]; rfl)⟩ ?_
          simp [intOf]
          omega
        · have hdg' : digit c = false := by simpa using hdg
          rw [hdg'] at D
          have HN : Hid (isName s = false) := BAD.out (by rw [hl', hdg']; rfl)
          go_wp2_with fail
          refine L.mono ?_
          rintro e w1 ⟨rfl, rfl⟩
          go_wp2_with fail
          refine D.mono ?_
          rintro e w1 ⟨rfl, rfl⟩
          go_wp2_with fail
          refine hr _ _ ?_
          go_ret
          rw [HN.out]
          exact ⟨rfl, rfl⟩
/-- A sign of a name, first or not. -/
def sign (c : Nat) (f : Bool) : Bool := letter c || (digit c && !f)

theorem docLetter_any (w : World) (c : Nat) (f : Bool) : Calls Try.prog 39 #[.int .u8 (c : Int), .bool f] w fun e w' => e = .returned (.bool (sign c f)) ∧ w' = w := by
  rcases (show (97 ≤ c ∧ c ≤ 122) ∨ (65 ≤ c ∧ c ≤ 90) ∨ (c = 95) ∨ (c = 36) ∨ (48 ≤ c ∧ c ≤ 57) ∨ (c < 48 ∧ c ≠ 36) ∨ (57 < c ∧ c < 65) ∨ (90 < c ∧ c < 97 ∧ c ≠ 95) ∨ (122 < c) by omega) with ⟨h1, h2⟩ | ⟨h1, h2⟩ | rfl | rfl | ⟨h1, h2⟩ | ⟨h1, h2⟩ | ⟨h1, h2⟩ | ⟨h1, h2, h3⟩ | h1
  · have HS : Hid (sign c f = true) := by show _ = _; simp [sign, letter]; omega
    go_enter Try.func39, Try.ntmps39
    go_wp2_with fail
    go_ret
    rw [HS.out]
    exact ⟨by first | rfl | (simp; done) | (simp; omega), rfl⟩
  · have HS : Hid (sign c f = true) := by show _ = _; simp [sign, letter]; omega
    have k0 : ¬ 97 ≤ c := by omega
    go_enter Try.func39, Try.ntmps39
    go_wp2_with fail
    go_ret
    rw [HS.out]
    exact ⟨by first | rfl | (simp; done) | (simp; omega), rfl⟩
  · have HS : Hid (sign 95 f = true) := rfl
    go_enter Try.func39, Try.ntmps39
    go_wp2_with fail
    go_ret
    rw [HS.out]
    exact ⟨rfl, rfl⟩
  · have HS : Hid (sign 36 f = true) := rfl
    go_enter Try.func39, Try.ntmps39
    go_wp2_with fail
    go_ret
    rw [HS.out]
    exact ⟨rfl, rfl⟩
  · have HS : Hid (sign c f = (!f)) := by show _ = _; cases f <;> simp [sign, letter, digit] <;> omega
    have k0 : ¬ 97 ≤ c := by omega
    have k1 : ¬ 65 ≤ c := by omega
    have n95 : ((c : Int) == 95) = false := by simp; omega
    have n36 : ((c : Int) == 36) = false := by simp; omega
    go_enter Try.func39, Try.ntmps39
    go_wp2_with fail
    go_ret
    rw [HS.out]
    exact ⟨by first | rfl | (simp; done) | (simp; omega), rfl⟩
  · have HS : Hid (sign c f = false) := by show _ = _; cases f <;> simp [sign, letter, digit] <;> omega
    have k0 : ¬ 97 ≤ c := by omega
    have k1 : ¬ 65 ≤ c := by omega
    have k2 : ¬ 48 ≤ c := by omega
    have n95 : ((c : Int) == 95) = false := by simp; omega
    have n36 : ((c : Int) == 36) = false := by simp; omega
    go_enter Try.func39, Try.ntmps39
    go_wp2_with fail
    go_ret
    rw [HS.out]
    exact ⟨by first | rfl | (simp; done) | (simp; omega), rfl⟩
  · have HS : Hid (sign c f = false) := by show _ = _; cases f <;> simp [sign, letter, digit] <;> omega
    have k0 : ¬ 97 ≤ c := by omega
    have k1 : ¬ 65 ≤ c := by omega
    have k2 : 48 ≤ c := by omega
    have k3 : ¬ c ≤ 57 := by omega
    have n95 : ((c : Int) == 95) = false := by simp; omega
    have n36 : ((c : Int) == 36) = false := by simp; omega
    go_enter Try.func39, Try.ntmps39
    go_wp2_with fail
    go_ret
    rw [HS.out]
    exact ⟨by first | rfl | (simp; done) | (simp; omega), rfl⟩
  · have HS : Hid (sign c f = false) := by show _ = _; cases f <;> simp [sign, letter, digit] <;> omega
    have k0 : ¬ 97 ≤ c := by omega
    have k1 : 65 ≤ c := by omega
    have k2 : ¬ c ≤ 90 := by omega
    have k3 : 48 ≤ c := by omega
    have k4 : ¬ c ≤ 57 := by omega
    have n95 : ((c : Int) == 95) = false := by simp; omega
    have n36 : ((c : Int) == 36) = false := by simp; omega
    go_enter Try.func39, Try.ntmps39
    go_wp2_with fail
    go_ret
    rw [HS.out]
    exact ⟨by first | rfl | (simp; done) | (simp; omega), rfl⟩
  · have HS : Hid (sign c f = false) := by show _ = _; cases f <;> simp [sign, letter, digit] <;> omega
    have k0 : 97 ≤ c := by omega
    have k1 : ¬ c ≤ 122 := by omega
    have k2 : 65 ≤ c := by omega
    have k3 : ¬ c ≤ 90 := by omega
    have k4 : 48 ≤ c := by omega
    have k5 : ¬ c ≤ 57 := by omega
    have n95 : ((c : Int) == 95) = false := by simp; omega
    have n36 : ((c : Int) == 36) = false := by simp; omega
    go_enter Try.func39, Try.ntmps39
    go_wp2_with fail
    go_ret
    rw [HS.out]
    exact ⟨by first | rfl | (simp; done) | (simp; omega), rfl⟩

theorem name_all (s : ByteArray) (h : ∀ (i c : Nat), (nl s)[i]? = some c → sign c (decide (i = 0)) = true) : isName s = (decide (1 ≤ s.size) && decide (s.size ≤ 20)) := by
  have hl := nl_length s
  unfold isName
  by_cases h0 : s.size = 0
  · have : nl s = [] := List.eq_nil_of_length_eq_zero (by omega)
    rw [this, h0]
    rfl
  by_cases h20 : 20 < s.size
  · rw [nameL_len _ (by omega), decide_eq_false (show ¬ s.size ≤ 20 by omega)]
    simp
  rw [decide_eq_true (show 1 ≤ s.size by omega), decide_eq_true (show s.size ≤ 20 by omega)]
  refine nameL_ok _ (fun e => by rw [e] at hl; simp at hl; omega) (by omega) ?_ ?_
  · obtain ⟨c, hc⟩ : ∃ c, (nl s)[0]? = some c := ⟨_, List.getElem?_eq_getElem (by omega)⟩
    have := h 0 c hc
    rw [List.getD_eq_getElem?_getD, hc]
    simp only [Option.getD_some]
    simp only [sign, decide_true, Bool.not_true, Bool.and_false, Bool.or_false] at this
    cases hd : digit c with
    | false => rfl
    | true =>
      simp only [digit, decide_eq_true_eq] at hd
      simp only [letter, decide_eq_true_eq] at this
      omega
  · rw [List.all_eq_true]
    intro c hc
    obtain ⟨i, hi⟩ := List.mem_iff_getElem?.1 hc
    have := h i c hi
    unfold sign at this
    cases hl : letter c <;> simp_all

theorem name_bad (s : ByteArray) (k c : Nat) (hk : (nl s)[k]? = some c) (h : sign c (decide (k = 0)) = false) : isName s = false := by
  by_cases h1 : (letter c || digit c) = false
  · exact nameL_bad _ k c hk h1
  · have h1 : (letter c || digit c) = true := by cases hh : (letter c || digit c) with | true => rfl | false => exact absurd hh h1
    by_cases h0 : k = 0
    · subst h0
      refine nameL_dig _ ?_
      rw [List.getD_eq_getElem?_getD, hk]
      simp only [Option.getD_some]
      simp only [sign, decide_true, Bool.not_true, Bool.and_false, Bool.or_false] at h
      rw [h] at h1
      simpa using h1
    · rw [decide_eq_false h0] at h
      simp only [sign, Bool.not_false, Bool.and_true] at h
      rw [h] at h1
      simp at h1

set_option maxRecDepth 100000 in
theorem docName_any (w : World) (s : ByteArray) (hs : s.size ≤ 1099511627776) : Calls Try.prog 33 #[.string s] w fun e w' => e = .returned (.bool (isName s)) ∧ w' = w := by
  go_enter Try.func33, Try.ntmps33
  go_wp2_with fail
  go_loop [3] (fun i => ∃ (k : Nat), i = .int .i64 (k : Int) ∧ k ≤ s.size ∧ (∀ (j c : Nat), j < k → (nl s)[j]? = some c → sign c (decide (j = 0)) = true)) (fun i => s.size - (intOf i).toNat)
  case atStart => exact ⟨0, rfl, Nat.zero_le _, fun j c hj => absurd hj (by omega)⟩
  case round =>
    obtain ⟨k, rfl, hk, hall⟩ := hrel
    have HA : Hid (∀ (j c : Nat), j < k → (nl s)[j]? = some c → sign c (decide (j = 0)) = true) := hall
    clear hall
    by_cases hlt : k < s.size
    · have hc : (nl s)[k]? = some s[k].toNat := nl_get s k hlt
      have HC : Hid ((nl s)[k]? = some s[k].toNat) := hc
      clear hc
      have L := docLetter_any w s[k].toNat (decide (k = 0))
      have e0 : ((k : Int) == 0) = decide (k = 0) := by by_cases h : k = 0 <;> simp [h]
      generalize hcv : s[k].toNat = c at *
      by_cases hsg : sign c (decide (k = 0)) = true
      · rw [hsg] at L
        have STEP : Hid (∀ (j c : Nat), j < k + 1 → (nl s)[j]? = some c → sign c (decide (j = 0)) = true) := fun j c' hj hc => by
          by_cases hjk : j < k
          · exact HA.out j c' hjk hc
          · obtain rfl : j = k := by omega
            rw [HC.out] at hc
            simp only [Option.some.injEq] at hc
            subst hc
            exact hsg
        generalize hdk : decide (k = 0) = dk at *
        clear hsg hdk
        go_wp2_with fail
        refine L.mono ?_
        rintro e w1 ⟨rfl, rfl⟩
        go_wp2_with fail
        go_round
        case rel => exact ⟨k + 1, by go_num, by omega, STEP.out⟩
        case measure => simp [intOf]; omega
      · have hsg' : sign c (decide (k = 0)) = false := by simpa using hsg
        rw [hsg'] at L
        have HN : Hid (isName s = false) := name_bad s k c HC.out hsg'
        generalize hdk : decide (k = 0) = dk at *
        clear hsg hsg' hdk
        go_wp2_with fail
        refine L.mono ?_
        rintro e w1 ⟨rfl, rfl⟩
        go_wp2_with fail
        go_ret
        rw [HN.out]
        exact ⟨rfl, rfl⟩
    · have HN : Hid (isName s = (decide (1 ≤ s.size) && decide (s.size ≤ 20))) := name_all s (fun i c hi => HA.out i c (by have := (List.getElem?_eq_some_iff.1 hi).1; rw [nl_length] at this; omega) hi)
      by_cases h1 : 1 ≤ s.size
      · go_wp2_with fail
        go_ret
        rw [HN.out]
        exact ⟨by rw [decide_eq_true h1]; simp; omega, rfl⟩
      · go_wp2_with fail
        go_ret
        rw [HN.out]
        exact ⟨by rw [decide_eq_false h1]; simp, rfl⟩
end Go.Proofs.Ytabiagheflkiaaa
