/- What is asked of types and constants: the program's answers. -/
import Derived.Test.YthncdbobjeeeaaaGreatDoorGg
namespace Go.Proofs.YthncdbobjeeeaaaGreatDoor
open Go.ChangeShapes Go.WideShapes Go.ChangeAt Go.RowKit

theorem emp (c : ByteArray) : c.toList.isEmpty = decide (c = e0) := by
  rw [ByteArray.toList_eq]
  by_cases h : c = e0
  · subst h; rfl
  · rw [decide_eq_false h]
    have : c.data.toList ≠ [] := fun e => h (by
      cases c with
      | mk d =>
        have : d = #[] := by
          cases d with
          | mk l => simp at e; subst e; rfl
        subst this
        rfl)
    simpa using this

theorem emp_ne (c : ByteArray) (h : c ≠ e0) : ¬ c.toList = [] := fun e => by
  have := emp c
  rw [e, decide_eq_false h] at this
  simp at this

theorem isType_any (w : World) (t : Ty) (void : Bool) (hs : t.c.size ≤ 1099511627776) : Calls Tryz.prog 104 #[tyV t, .bool void] w fun e w' => e = .returned (.bool (isType t void)) ∧ Fr no w w' := by
  obtain ⟨k, c⟩ := t
  unfold tyV
  simp only [] at *
  have HF : Hid (Fr no w (w.alloc (.cells #[.int .i64 k, .string c] 46))) := (Fr.refl no w).alloc _ _
  by_cases h4 : k = 4
  · subst h4
    have I := isName_any (w.alloc (.cells #[.int .i64 4, .string c] 46)) c hs
    have HE : Hid (isType ⟨4, c⟩ void = isName c) := by show _ = _; unfold isType; rw [if_pos rfl]
    go_enter Tryz.func104, Tryz.ntmps104
    go_wp2_with fail
    refine I.mono ?_
    rintro e w1 ⟨rfl, rfl⟩
    go_wp2_with fail
    go_ret
    rw [HE.out]
    exact ⟨rfl, HF.out⟩
  · have q4 : (k == 4) = false := by simpa using h4
    by_cases h1 : k = 1
    · subst h1
      have HE : Hid (isType ⟨1, c⟩ void = c.toList.isEmpty) := by show _ = _; unfold isType; rw [if_neg h4, if_pos (.inl rfl), emp]
      go_enter Tryz.func104, Tryz.ntmps104
      go_wp2_with fail
      go_ret
      rw [HE.out]
      exact ⟨rfl, HF.out⟩
    · have q1 : (k == 1) = false := by simpa using h1
      by_cases h2 : k = 2
      · subst h2
        have HE : Hid (isType ⟨2, c⟩ void = c.toList.isEmpty) := by show _ = _; unfold isType; rw [if_neg h4, if_pos (.inr (.inl rfl)), emp]
        go_enter Tryz.func104, Tryz.ntmps104
        go_wp2_with fail
        go_ret
        rw [HE.out]
        exact ⟨rfl, HF.out⟩
      · have q2 : (k == 2) = false := by simpa using h2
        by_cases h3 : k = 3
        · subst h3
          have HE : Hid (isType ⟨3, c⟩ void = c.toList.isEmpty) := by show _ = _; unfold isType; rw [if_neg h4, if_pos (.inr (.inr rfl)), emp]
          go_enter Tryz.func104, Tryz.ntmps104
          go_wp2_with fail
          go_ret
          rw [HE.out]
          exact ⟨rfl, HF.out⟩
        · have q3 : (k == 3) = false := by simpa using h3
          by_cases h0 : k = 0
          · subst h0
            have HE : Hid (isType ⟨0, c⟩ void = (void && c.toList.isEmpty)) := by show _ = _; unfold isType; rw [if_neg h4, if_neg (by simp), if_pos rfl, emp]
            cases void with
            | true =>
              go_enter Tryz.func104, Tryz.ntmps104
              go_wp2_with fail
              go_ret
              rw [HE.out]
              exact ⟨rfl, HF.out⟩
            | false =>
              go_enter Tryz.func104, Tryz.ntmps104
              go_wp2_with fail
              go_ret
              rw [HE.out]
              exact ⟨rfl, HF.out⟩
          · have q0 : (k == 0) = false := by simpa using h0
            have HE : Hid (isType ⟨k, c⟩ void = false) := by show _ = _; unfold isType; simp only []; rw [if_neg h4, if_neg (by omega), if_neg h0]
            go_enter Tryz.func104, Tryz.ntmps104
            go_wp2_with fail
            go_ret
            rw [HE.out]
            exact ⟨rfl, HF.out⟩

/-- Which parts are a kind's own. -/
def own (k : Int) : Int := if k = 1 then 1 else if k = 2 then 2 else if k = 3 then 4 else if k = 4 ∨ k = 5 then 12 else 0

theorem ownParts_any (w : World) (k : Int) : Calls Tryz.prog 65 #[.int .i64 k] w fun e w' => e = .returned (.int .i64 (own k)) ∧ w' = w := by
  by_cases h1 : k = 1
  · subst h1
    go_enter Tryz.func65, Tryz.ntmps65
    go_wp2_with fail
    go_ret
    exact ⟨rfl, rfl⟩
  by_cases h2 : k = 2
  · subst h2
    go_enter Tryz.func65, Tryz.ntmps65
    go_wp2_with fail
    go_ret
    exact ⟨rfl, rfl⟩
  by_cases h3 : k = 3
  · subst h3
    go_enter Tryz.func65, Tryz.ntmps65
    go_wp2_with fail
    go_ret
    exact ⟨rfl, rfl⟩
  by_cases h4 : k = 4
  · subst h4
    go_enter Tryz.func65, Tryz.ntmps65
    go_wp2_with fail
    go_ret
    exact ⟨rfl, rfl⟩
  by_cases h5 : k = 5
  · subst h5
    go_enter Tryz.func65, Tryz.ntmps65
    go_wp2_with fail
    go_ret
    exact ⟨rfl, rfl⟩
  have q1 : (k == 1) = false := by simpa using h1
  have q2 : (k == 2) = false := by simpa using h2
  have q3 : (k == 3) = false := by simpa using h3
  have q4 : (k == 4) = false := by simpa using h4
  have q5 : (k == 5) = false := by simpa using h5
  have HE : Hid (own k = 0) := by show _ = _; unfold own; rw [if_neg h1, if_neg h2, if_neg h3, if_neg (by omega)]
  clear h1 h2 h3 h4 h5
  go_enter Tryz.func65, Tryz.ntmps65
  go_wp2_with fail
  go_ret
  rw [HE.out]
  exact ⟨rfl, rfl⟩

theorem sameBits_any (w : World) (a b c d : Nat) : Calls Tryz.prog 87 #[.complex .f64 a b, .complex .f64 c d] w fun e w' => e = .returned (.bool (decide (a = c ∧ b = d))) ∧ w' = w := by
  have hbits := run_bits
  by_cases h1 : a = c
  · subst h1
    by_cases h2 : b = d
    · subst h2
      go_enter Tryz.func87, Tryz.ntmps87
      go_wp2_with fail
      go_ret
      exact ⟨by simp, rfl⟩
    · have q : ((b : Int) == (d : Int)) = false := by simp; omega
      go_enter Tryz.func87, Tryz.ntmps87
      go_wp2_with fail
      go_ret
      exact ⟨by simp [h2], rfl⟩
  · have q : ((a : Int) == (c : Int)) = false := by simp; omega
    go_enter Tryz.func87, Tryz.ntmps87
    go_wp2_with fail
    go_ret
    exact ⟨by simp [h1], rfl⟩

/-- Which parts of a constant aren't zero. -/
def parts (x : Cs) : Int := (if x.n = 0 then 0 else 1) + (if x.re = 0 ∧ x.im = 0 then 0 else 2) + (if x.c = e0 then 0 else 4) + (if x.m = e0 then 0 else 8)

theorem emp_eq (c : ByteArray) (h : c = e0) : c.toList = [] := (toList_nil c).2 (by subst h; rfl)
theorem emp_false (c : ByteArray) (h : c ≠ e0) : c.toList.isEmpty = false := by rw [emp, decide_eq_false h]

set_option maxRecDepth 100000 in
set_option maxHeartbeats 2000000 in
theorem partsOf_any (w : World) (x : Cs) : Calls Tryz.prog 103 #[csV x] w fun e w' => e = .returned (.int .i64 (parts x)) ∧ Fr no w w' := by
  obtain ⟨k, n, re, im, c, m⟩ := x
  unfold csV
  simp only []
  have HF : Hid (Fr no w (w.alloc (.cells #[.int .i64 k, .int .i64 n, .complex .f64 re im, .string c, .string m] 39))) := (Fr.refl no w).alloc _ _
  have S := sameBits_any (w.alloc (.cells #[.int .i64 k, .int .i64 n, .complex .f64 re im, .string c, .string m] 39)) re im 0 0
  have HP : Hid (parts ⟨k, n, re, im, c, m⟩ = (if n = 0 then 0 else 1) + (if re = 0 ∧ im = 0 then 0 else 2) + (if c = e0 then 0 else 4) + (if m = e0 then 0 else 8)) := rfl
  by_cases h1 : n = 0
  · subst h1
    rw [if_pos rfl] at HP
    by_cases h2 : re = 0 ∧ im = 0
    · rw [decide_eq_true h2] at S
      rw [if_pos h2] at HP
      clear h2
      by_cases h3 : c = e0
      · have q3 := emp_eq c h3
        rw [if_pos h3] at HP
        clear h3
        by_cases h4 : m = e0
        · have q4 := emp_eq m h4
          rw [if_pos h4] at HP
          clear h4
          go_enter Tryz.func103, Tryz.ntmps103
          go_wp2_with fail
          refine S.mono ?_
          rintro e w1 ⟨rfl, rfl⟩
          go_wp2_with fail
          go_ret
          rw [HP.out]
          exact ⟨by first | rfl | decide, HF.out⟩
        · have q4 := emp_ne m h4
          have q4b := emp_false m h4
          rw [if_neg h4] at HP
          clear h4
          go_enter Tryz.func103, Tryz.ntmps103
          go_wp2_with fail
          refine S.mono ?_
          rintro e w1 ⟨rfl, rfl⟩
          go_wp2_with fail
          go_ret
          rw [HP.out]
          exact ⟨by first | rfl | decide, HF.out⟩
      · have q3 := emp_ne c h3
        have q3b := emp_false c h3
        rw [if_neg h3] at HP
        clear h3
        by_cases h4 : m = e0
        · have q4 := emp_eq m h4
          rw [if_pos h4] at HP
          clear h4
          go_enter Tryz.func103, Tryz.ntmps103
          go_wp2_with fail
          refine S.mono ?_
          rintro e w1 ⟨rfl, rfl⟩
          go_wp2_with fail
          go_ret
          rw [HP.out]
          exact ⟨by first | rfl | decide, HF.out⟩
        · have q4 := emp_ne m h4
          have q4b := emp_false m h4
          rw [if_neg h4] at HP
          clear h4
          go_enter Tryz.func103, Tryz.ntmps103
          go_wp2_with fail
          refine S.mono ?_
          rintro e w1 ⟨rfl, rfl⟩
          go_wp2_with fail
          go_ret
          rw [HP.out]
          exact ⟨by first | rfl | decide, HF.out⟩
    · rw [decide_eq_false h2] at S
      rw [if_neg h2] at HP
      clear h2
      by_cases h3 : c = e0
      · have q3 := emp_eq c h3
        rw [if_pos h3] at HP
        clear h3
        by_cases h4 : m = e0
        · have q4 := emp_eq m h4
          rw [if_pos h4] at HP
          clear h4
          go_enter Tryz.func103, Tryz.ntmps103
          go_wp2_with fail
          refine S.mono ?_
          rintro e w1 ⟨rfl, rfl⟩
          go_wp2_with fail
          go_ret
          rw [HP.out]
          exact ⟨by first | rfl | decide, HF.out⟩
        · have q4 := emp_ne m h4
          have q4b := emp_false m h4
          rw [if_neg h4] at HP
          clear h4
          go_enter Tryz.func103, Tryz.ntmps103
          go_wp2_with fail
          refine S.mono ?_
          rintro e w1 ⟨rfl, rfl⟩
          go_wp2_with fail
          go_ret
          rw [HP.out]
          exact ⟨by first | rfl | decide, HF.out⟩
      · have q3 := emp_ne c h3
        have q3b := emp_false c h3
        rw [if_neg h3] at HP
        clear h3
        by_cases h4 : m = e0
        · have q4 := emp_eq m h4
          rw [if_pos h4] at HP
          clear h4
          go_enter Tryz.func103, Tryz.ntmps103
          go_wp2_with fail
          refine S.mono ?_
          rintro e w1 ⟨rfl, rfl⟩
          go_wp2_with fail
          go_ret
          rw [HP.out]
          exact ⟨by first | rfl | decide, HF.out⟩
        · have q4 := emp_ne m h4
          have q4b := emp_false m h4
          rw [if_neg h4] at HP
          clear h4
          go_enter Tryz.func103, Tryz.ntmps103
          go_wp2_with fail
          refine S.mono ?_
          rintro e w1 ⟨rfl, rfl⟩
          go_wp2_with fail
          go_ret
          rw [HP.out]
          exact ⟨by first | rfl | decide, HF.out⟩
  · rw [if_neg h1] at HP
    have q1 : (n == 0) = false := by simpa using h1
    by_cases h2 : re = 0 ∧ im = 0
    · rw [decide_eq_true h2] at S
      rw [if_pos h2] at HP
      clear h2
      by_cases h3 : c = e0
      · have q3 := emp_eq c h3
        rw [if_pos h3] at HP
        clear h3
        by_cases h4 : m = e0
        · have q4 := emp_eq m h4
          rw [if_pos h4] at HP
          clear h4
          go_enter Tryz.func103, Tryz.ntmps103
          go_wp2_with fail
          refine S.mono ?_
          rintro e w1 ⟨rfl, rfl⟩
          go_wp2_with fail
          go_ret
          rw [HP.out]
          exact ⟨by first | rfl | decide, HF.out⟩
        · have q4 := emp_ne m h4
          have q4b := emp_false m h4
          rw [if_neg h4] at HP
          clear h4
          go_enter Tryz.func103, Tryz.ntmps103
          go_wp2_with fail
          refine S.mono ?_
          rintro e w1 ⟨rfl, rfl⟩
          go_wp2_with fail
          go_ret
          rw [HP.out]
          exact ⟨by first | rfl | decide, HF.out⟩
      · have q3 := emp_ne c h3
        have q3b := emp_false c h3
        rw [if_neg h3] at HP
        clear h3
        by_cases h4 : m = e0
        · have q4 := emp_eq m h4
          rw [if_pos h4] at HP
          clear h4
          go_enter Tryz.func103, Tryz.ntmps103
          go_wp2_with fail
          refine S.mono ?_
          rintro e w1 ⟨rfl, rfl⟩
          go_wp2_with fail
          go_ret
          rw [HP.out]
          exact ⟨by first | rfl | decide, HF.out⟩
        · have q4 := emp_ne m h4
          have q4b := emp_false m h4
          rw [if_neg h4] at HP
          clear h4
          go_enter Tryz.func103, Tryz.ntmps103
          go_wp2_with fail
          refine S.mono ?_
          rintro e w1 ⟨rfl, rfl⟩
          go_wp2_with fail
          go_ret
          rw [HP.out]
          exact ⟨by first | rfl | decide, HF.out⟩
    · rw [decide_eq_false h2] at S
      rw [if_neg h2] at HP
      clear h2
      by_cases h3 : c = e0
      · have q3 := emp_eq c h3
        rw [if_pos h3] at HP
        clear h3
        by_cases h4 : m = e0
        · have q4 := emp_eq m h4
          rw [if_pos h4] at HP
          clear h4
          go_enter Tryz.func103, Tryz.ntmps103
          go_wp2_with fail
          refine S.mono ?_
          rintro e w1 ⟨rfl, rfl⟩
          go_wp2_with fail
          go_ret
          rw [HP.out]
          exact ⟨by first | rfl | decide, HF.out⟩
        · have q4 := emp_ne m h4
          have q4b := emp_false m h4
          rw [if_neg h4] at HP
          clear h4
          go_enter Tryz.func103, Tryz.ntmps103
          go_wp2_with fail
          refine S.mono ?_
          rintro e w1 ⟨rfl, rfl⟩
          go_wp2_with fail
          go_ret
          rw [HP.out]
          exact ⟨by first | rfl | decide, HF.out⟩
      · have q3 := emp_ne c h3
        have q3b := emp_false c h3
        rw [if_neg h3] at HP
        clear h3
        by_cases h4 : m = e0
        · have q4 := emp_eq m h4
          rw [if_pos h4] at HP
          clear h4
          go_enter Tryz.func103, Tryz.ntmps103
          go_wp2_with fail
          refine S.mono ?_
          rintro e w1 ⟨rfl, rfl⟩
          go_wp2_with fail
          go_ret
          rw [HP.out]
          exact ⟨by first | rfl | decide, HF.out⟩
        · have q4 := emp_ne m h4
          have q4b := emp_false m h4
          rw [if_neg h4] at HP
          clear h4
          go_enter Tryz.func103, Tryz.ntmps103
          go_wp2_with fail
          refine S.mono ?_
          rintro e w1 ⟨rfl, rfl⟩
          go_wp2_with fail
          go_ret
          rw [HP.out]
          exact ⟨by first | rfl | decide, HF.out⟩
end Go.Proofs.YthncdbobjeeeaaaGreatDoor

/- What is asked of constants and fields: the program's answers. -/
namespace Go.Proofs.YthncdbobjeeeaaaGreatDoor
open Go.ChangeShapes Go.WideShapes Go.ChangeAt Go.RowKit

/-- Whether a constant has what isn't its own. -/
def alien (x : Cs) : Bool := bits .andNot .i64 (parts x) (own x.k) == 0

def sumB (a b c d : Bool) : Int := (if a then 0 else 1) + (if b then 0 else 2) + (if c then 0 else 4) + (if d then 0 else 8)

theorem parts_b (x : Cs) : parts x = sumB (decide (x.n = 0)) (decide (x.re = 0 ∧ x.im = 0)) (decide (x.c = e0)) (decide (x.m = e0)) := by
  unfold parts sumB
  by_cases h1 : x.n = 0 <;> by_cases h2 : x.re = 0 ∧ x.im = 0 <;> by_cases h3 : x.c = e0 <;> by_cases h4 : x.m = e0 <;> simp only [h1, h2, h3, h4, if_true, if_false, decide_true, decide_false] <;> rfl

theorem key1 : ∀ a b c d : Bool, (bits .andNot .i64 (sumB a b c d) 1 == 0) = (b && c && d) := by decide
theorem key2 : ∀ a b c d : Bool, (bits .andNot .i64 (sumB a b c d) 2 == 0) = (a && c && d) := by decide
theorem key4 : ∀ a b c d : Bool, (bits .andNot .i64 (sumB a b c d) 4 == 0) = (a && b && d) := by decide
theorem key12 : ∀ a b c d : Bool, (bits .andNot .i64 (sumB a b c d) 12 == 0) = (a && b) := by decide

set_option maxRecDepth 100000 in
set_option maxHeartbeats 2000000 in
theorem checkConst_any (w : World) (x : Cs) (hc : x.c.size ≤ 1099511627776) (hm : x.m.size ≤ 1099511627776) (ah : Value) : Calls Tryz.prog 51 #[csV x, ah] w fun e w' => e = .returned (.int .i64 (ckCs x : Int)) ∧ Fr no w w' := by
  have hpb := parts_b x
  have P0 := partsOf_any (w.alloc (.cells (csC x).toArray 39)) x
  obtain ⟨k, n, re, im, c, m⟩ := x
  simp only [] at hpb hc hm
  have P : Calls Tryz.prog 103 #[.agg #[.int .i64 k, .int .i64 n, .complex .f64 re im, .string c, .string m]] (w.alloc (.cells #[.int .i64 k, .int .i64 n, .complex .f64 re im, .string c, .string m] 39)) fun e w' => e = .returned (.int .i64 (parts ⟨k, n, re, im, c, m⟩)) ∧ Fr no (w.alloc (.cells #[.int .i64 k, .int .i64 n, .complex .f64 re im, .string c, .string m] 39)) w' := P0
  clear P0
  have HF : Hid (Fr no w (w.alloc (.cells #[.int .i64 k, .int .i64 n, .complex .f64 re im, .string c, .string m] 39))) := (Fr.refl no w).alloc _ _
  have O := ownParts_any (w.alloc (.cells #[.int .i64 k, .int .i64 n, .complex .f64 re im, .string c, .string m] 39)) k
  have C3 : ((w.alloc (.cells #[.int .i64 k, .int .i64 n, .complex .f64 re im, .string c, .string m] 39))).cell? ⟨w.heap.size, 3, none⟩ = some (.string c) := by simp
  have C4 : ((w.alloc (.cells #[.int .i64 k, .int .i64 n, .complex .f64 re im, .string c, .string m] 39))).cell? ⟨w.heap.size, 4, none⟩ = some (.string m) := by simp
  have NC := fun w' => isName_any w' c hc
  have NM := fun w' => isName_any w' m hm
  have HC : Hid (ckCs ⟨k, n, re, im, c, m⟩ = ckCs ⟨k, n, re, im, c, m⟩) := rfl
  unfold csV
  simp only []
  generalize hp : parts ⟨k, n, re, im, c, m⟩ = p at *
  by_cases hk : k = 1
  · have hO : own k = 1 := by unfold own; rw [if_pos hk]
    have hz := key1 (decide (n = 0)) (decide (re = 0 ∧ im = 0)) (decide (c = e0)) (decide (m = e0))
    rw [← hpb] at hz
    rw [hO] at O
    by_cases hg : re = 0 ∧ im = 0 ∧ c = e0 ∧ m = e0
    · have hz' : (bits .andNot .i64 p 1 == 0) = true := by rw [hz]; simp [hg]
      clear hz
      have HE : Hid (ckCs ⟨k, n, re, im, c, m⟩ = 0) := by show _ = _; unfold ckCs; rw [if_pos hk]; rw [if_pos hg]
      clear hg hpb hk
      go_enter Tryz.func51, Tryz.ntmps51
      go_wp2_with fail
      refine O.mono ?_
      rintro e w1 ⟨rfl, rfl⟩
      go_wp2_with fail
      refine P.mono ?_
      rintro e w1 ⟨rfl, f1⟩
      have F1 : Hid (Fr no w w1) := HF.out.trans f1 (fun _ _ f => f) (fun _ _ f => f)
      have c0 := f1.cell C3 (fun f => f)
      have c1 := f1.cell C4 (fun f => f)
      clear f1
      go_wp2_with fail
      go_ret
      rw [HE.out]
      exact ⟨rfl, F1.out⟩
    · have hz' : (bits .andNot .i64 p 1 == 0) = false := by rw [hz]; simp; intros; simp_all
      clear hz
      have HE : Hid (ckCs ⟨k, n, re, im, c, m⟩ = 51) := by show _ = _; unfold ckCs; rw [if_pos hk]; rw [if_neg hg]
      clear hg hpb hk
      go_enter Tryz.func51, Tryz.ntmps51
      go_wp2_with fail
      refine O.mono ?_
      rintro e w1 ⟨rfl, rfl⟩
      go_wp2_with fail
      refine P.mono ?_
      rintro e w1 ⟨rfl, f1⟩
      have F1 : Hid (Fr no w w1) := HF.out.trans f1 (fun _ _ f => f) (fun _ _ f => f)
      have c0 := f1.cell C3 (fun f => f)
      have c1 := f1.cell C4 (fun f => f)
      clear f1
      go_wp2_with fail
      go_ret
      rw [HE.out]
      exact ⟨rfl, F1.out⟩
  have h1 := hk
  clear hk
  by_cases hk : k = 2
  · have hO : own k = 2 := by unfold own; rw [if_neg h1, if_pos hk]
    have hz := key2 (decide (n = 0)) (decide (re = 0 ∧ im = 0)) (decide (c = e0)) (decide (m = e0))
    rw [← hpb] at hz
    rw [hO] at O
    by_cases hg : n = 0 ∧ c = e0 ∧ m = e0
    · have hz' : (bits .andNot .i64 p 2 == 0) = true := by rw [hz]; simp [hg]
      clear hz
      have HE : Hid (ckCs ⟨k, n, re, im, c, m⟩ = 0) := by show _ = _; unfold ckCs; rw [if_neg h1, if_pos hk]; rw [if_pos hg]
      clear hg hpb hk
      go_enter Tryz.func51, Tryz.ntmps51
      go_wp2_with fail
      refine O.mono ?_
      rintro e w1 ⟨rfl, rfl⟩
      go_wp2_with fail
      refine P.mono ?_
      rintro e w1 ⟨rfl, f1⟩
      have F1 : Hid (Fr no w w1) := HF.out.trans f1 (fun _ _ f => f) (fun _ _ f => f)
      have c0 := f1.cell C3 (fun f => f)
      have c1 := f1.cell C4 (fun f => f)
      clear f1
      go_wp2_with fail
      go_ret
      rw [HE.out]
      exact ⟨rfl, F1.out⟩
    · have hz' : (bits .andNot .i64 p 2 == 0) = false := by rw [hz]; simp; intros; simp_all
      clear hz
      have HE : Hid (ckCs ⟨k, n, re, im, c, m⟩ = 51) := by show _ = _; unfold ckCs; rw [if_neg h1, if_pos hk]; rw [if_neg hg]
      clear hg hpb hk
      go_enter Tryz.func51, Tryz.ntmps51
      go_wp2_with fail
      refine O.mono ?_
      rintro e w1 ⟨rfl, rfl⟩
      go_wp2_with fail
      refine P.mono ?_
      rintro e w1 ⟨rfl, f1⟩
      have F1 : Hid (Fr no w w1) := HF.out.trans f1 (fun _ _ f => f) (fun _ _ f => f)
      have c0 := f1.cell C3 (fun f => f)
      have c1 := f1.cell C4 (fun f => f)
      clear f1
      go_wp2_with fail
      go_ret
      rw [HE.out]
      exact ⟨rfl, F1.out⟩
  have h2 := hk
  clear hk
  by_cases hk : k = 3
  · have hO : own k = 4 := by unfold own; rw [if_neg h1, if_neg h2, if_pos hk]
    have hz := key4 (decide (n = 0)) (decide (re = 0 ∧ im = 0)) (decide (c = e0)) (decide (m = e0))
    rw [← hpb] at hz
    rw [hO] at O
    by_cases hg : n = 0 ∧ re = 0 ∧ im = 0 ∧ m = e0
    · have hz' : (bits .andNot .i64 p 4 == 0) = true := by rw [hz]; simp [hg]
      clear hz
      by_cases hn : isName c = true
      · have HE : Hid (ckCs ⟨k, n, re, im, c, m⟩ = 0) := by show _ = _; unfold ckCs; rw [if_neg h1, if_neg h2, if_pos hk]; rw [if_pos hg, if_pos hn]
        rw [hn] at NC
        clear hg hpb hk
        go_enter Tryz.func51, Tryz.ntmps51
        go_wp2_with fail
        refine O.mono ?_
        rintro e w1 ⟨rfl, rfl⟩
        go_wp2_with fail
        refine P.mono ?_
        rintro e w1 ⟨rfl, f1⟩
        have F1 : Hid (Fr no w w1) := HF.out.trans f1 (fun _ _ f => f) (fun _ _ f => f)
        have c0 := f1.cell C3 (fun f => f)
        have c1 := f1.cell C4 (fun f => f)
        clear f1
        go_wp2_with fail
        refine (NC w1).mono ?_
        rintro e w2 ⟨rfl, rfl⟩
        go_wp2_with fail
        go_ret
        rw [HE.out]
        exact ⟨rfl, F1.out⟩
      · have HE : Hid (ckCs ⟨k, n, re, im, c, m⟩ = 50) := by show _ = _; unfold ckCs; rw [if_neg h1, if_neg h2, if_pos hk]; rw [if_pos hg, if_neg hn]
        have hn' : isName c = false := by simpa using hn
        rw [hn'] at NC
        clear hg hpb hk
        go_enter Tryz.func51, Tryz.ntmps51
        go_wp2_with fail
        refine O.mono ?_
        rintro e w1 ⟨rfl, rfl⟩
        go_wp2_with fail
        refine P.mono ?_
        rintro e w1 ⟨rfl, f1⟩
        have F1 : Hid (Fr no w w1) := HF.out.trans f1 (fun _ _ f => f) (fun _ _ f => f)
        have c0 := f1.cell C3 (fun f => f)
        have c1 := f1.cell C4 (fun f => f)
        clear f1
        go_wp2_with fail
        refine (NC w1).mono ?_
        rintro e w2 ⟨rfl, rfl⟩
        go_wp2_with fail
        go_ret
        rw [HE.out]
        exact ⟨rfl, F1.out⟩
    · have hz' : (bits .andNot .i64 p 4 == 0) = false := by rw [hz]; simp; intros; simp_all
      clear hz
      have HE : Hid (ckCs ⟨k, n, re, im, c, m⟩ = 51) := by show _ = _; unfold ckCs; rw [if_neg h1, if_neg h2, if_pos hk]; rw [if_neg hg]
      clear hg hpb hk
      go_enter Tryz.func51, Tryz.ntmps51
      go_wp2_with fail
      refine O.mono ?_
      rintro e w1 ⟨rfl, rfl⟩
      go_wp2_with fail
      refine P.mono ?_
      rintro e w1 ⟨rfl, f1⟩
      have F1 : Hid (Fr no w w1) := HF.out.trans f1 (fun _ _ f => f) (fun _ _ f => f)
      have c0 := f1.cell C3 (fun f => f)
      have c1 := f1.cell C4 (fun f => f)
      clear f1
      go_wp2_with fail
      go_ret
      rw [HE.out]
      exact ⟨rfl, F1.out⟩
  have h3 := hk
  clear hk
  by_cases hk : k = 4 ∨ k = 5
  · have hO : own k = 12 := by unfold own; rw [if_neg h1, if_neg h2, if_neg h3, if_pos hk]
    have hz := key12 (decide (n = 0)) (decide (re = 0 ∧ im = 0)) (decide (c = e0)) (decide (m = e0))
    rw [← hpb] at hz
    rw [hO] at O
    by_cases hg : n = 0 ∧ re = 0 ∧ im = 0
    · have hz' : (bits .andNot .i64 p 12 == 0) = true := by rw [hz]; simp [hg]
      clear hz
      by_cases hn : isName c = true
      · by_cases hn2 : isName m = true
        · have HE : Hid (ckCs ⟨k, n, re, im, c, m⟩ = 0) := by show _ = _; unfold ckCs; rw [if_neg h1, if_neg h2, if_neg h3, if_pos hk]; rw [if_pos hg, if_pos ⟨hn, hn2⟩]
          rw [hn] at NC
          rw [hn2] at NM
          clear hg hpb hk
          go_enter Tryz.func51, Tryz.ntmps51
          go_wp2_with fail
          refine O.mono ?_
          rintro e w1 ⟨rfl, rfl⟩
          go_wp2_with fail
          refine P.mono ?_
          rintro e w1 ⟨rfl, f1⟩
          have F1 : Hid (Fr no w w1) := HF.out.trans f1 (fun _ _ f => f) (fun _ _ f => f)
          have c0 := f1.cell C3 (fun f => f)
          have c1 := f1.cell C4 (fun f => f)
          clear f1
          go_wp2_with fail
          refine (NC w1).mono ?_
          rintro e w2 ⟨rfl, rfl⟩
          go_wp2_with fail
          refine (NM w2).mono ?_
          rintro e w3 ⟨rfl, rfl⟩
          go_wp2_with fail
          go_ret
          rw [HE.out]
          exact ⟨rfl, F1.out⟩
        · have HE : Hid (ckCs ⟨k, n, re, im, c, m⟩ = 50) := by show _ = _; unfold ckCs; rw [if_neg h1, if_neg h2, if_neg h3, if_pos hk]; rw [if_pos hg, if_neg (fun h => hn2 h.2)]
          have hn' : isName m = false := by simpa using hn2
          rw [hn] at NC
          rw [hn'] at NM
          clear hg hpb hk
          go_enter Tryz.func51, Tryz.ntmps51
          go_wp2_with fail
          refine O.mono ?_
          rintro e w1 ⟨rfl, rfl⟩
          go_wp2_with fail
          refine P.mono ?_
          rintro e w1 ⟨rfl, f1⟩
          have F1 : Hid (Fr no w w1) := HF.out.trans f1 (fun _ _ f => f) (fun _ _ f => f)
          have c0 := f1.cell C3 (fun f => f)
          have c1 := f1.cell C4 (fun f => f)
          clear f1
          go_wp2_with fail
          refine (NC w1).mono ?_
          rintro e w2 ⟨rfl, rfl⟩
          go_wp2_with fail
          refine (NM w2).mono ?_
          rintro e w3 ⟨rfl, rfl⟩
          go_wp2_with fail
          go_ret
          rw [HE.out]
          exact ⟨rfl, F1.out⟩
      · have HE : Hid (ckCs ⟨k, n, re, im, c, m⟩ = 50) := by show _ = _; unfold ckCs; rw [if_neg h1, if_neg h2, if_neg h3, if_pos hk]; rw [if_pos hg, if_neg (fun h => hn h.1)]
        have hn' : isName c = false := by simpa using hn
        rw [hn'] at NC
        clear hg hpb hk
        go_enter Tryz.func51, Tryz.ntmps51
        go_wp2_with fail
        refine O.mono ?_
        rintro e w1 ⟨rfl, rfl⟩
        go_wp2_with fail
        refine P.mono ?_
        rintro e w1 ⟨rfl, f1⟩
        have F1 : Hid (Fr no w w1) := HF.out.trans f1 (fun _ _ f => f) (fun _ _ f => f)
        have c0 := f1.cell C3 (fun f => f)
        have c1 := f1.cell C4 (fun f => f)
        clear f1
        go_wp2_with fail
        refine (NC w1).mono ?_
        rintro e w2 ⟨rfl, rfl⟩
        go_wp2_with fail
        go_ret
        rw [HE.out]
        exact ⟨rfl, F1.out⟩
    · have hz' : (bits .andNot .i64 p 12 == 0) = false := by rw [hz]; simp; intros; simp_all
      clear hz
      have HE : Hid (ckCs ⟨k, n, re, im, c, m⟩ = 51) := by show _ = _; unfold ckCs; rw [if_neg h1, if_neg h2, if_neg h3, if_pos hk]; rw [if_neg hg]
      clear hg hpb hk
      go_enter Tryz.func51, Tryz.ntmps51
      go_wp2_with fail
      refine O.mono ?_
      rintro e w1 ⟨rfl, rfl⟩
      go_wp2_with fail
      refine P.mono ?_
      rintro e w1 ⟨rfl, f1⟩
      have F1 : Hid (Fr no w w1) := HF.out.trans f1 (fun _ _ f => f) (fun _ _ f => f)
      have c0 := f1.cell C3 (fun f => f)
      have c1 := f1.cell C4 (fun f => f)
      clear f1
      go_wp2_with fail
      go_ret
      rw [HE.out]
      exact ⟨rfl, F1.out⟩
  have h4 := hk
  clear hk
  have hO : own k = 0 := by unfold own; rw [if_neg h1, if_neg h2, if_neg h3, if_neg h4]
  rw [hO] at O
  have HE : Hid (ckCs ⟨k, n, re, im, c, m⟩ = 51) := by show _ = _; unfold ckCs; rw [if_neg h1, if_neg h2, if_neg h3, if_neg h4]
  go_enter Tryz.func51, Tryz.ntmps51
  go_wp2_with fail
  refine O.mono ?_
  rintro e w1 ⟨rfl, rfl⟩
  go_wp2_with fail
  go_ret
  rw [HE.out]
  exact ⟨rfl, HF.out⟩
end Go.Proofs.YthncdbobjeeeaaaGreatDoor

