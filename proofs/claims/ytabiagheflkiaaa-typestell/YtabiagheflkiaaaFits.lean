/- Types: what fits, what two have in common, how many words: the program's answers. -/
import Derived.Test.YtabiagheflkiaaaAnc
namespace Go.Proofs.Ytabiagheflkiaaa
open Go.ChangeShapes Go.WideShapes Go.ChangeAt Go.RowKit

structure Ty where
  k : Int
  c : ByteArray

def tyV (t : Ty) : Value := .agg #[.int .i64 t.k, .string t.c]

def words (t : Ty) : Int := if t.k = 2 then 2 else if t.k = 1 ∨ t.k = 3 ∨ t.k = 4 ∨ t.k = 5 then 1 else 0

/-- A type of references. -/
def isRef (k : Int) : Bool := decide (k = 3 ∨ k = 4)

def fits (N : List ByteArray) (A : List Nat) (a b : Ty) : Bool :=
  if b.k = 6 then true else if b.k = 1 ∨ b.k = 2 ∨ b.k = 5 then a.k == b.k else if b.k = 3 then decide (a.k = 3 ∨ a.k = 5)
  else if b.k = 4 then (if a.k = 5 then true else if a.k = 4 then inL b.c (anc N A a.c) else false) else false

def merge (N : List ByteArray) (A : List Nat) (a b : Ty) : Ty :=
  if a.k = b.k ∧ a.c = b.c then a else if a.k = 5 ∧ isRef b.k = true then b else if b.k = 5 ∧ isRef a.k = true then a
  else if a.k = 4 ∧ b.k = 4 ∧ (ix a.c N).isSome = true ∧ (ix b.c N).isSome = true then ⟨4, shared (anc N A a.c) (anc N A b.c)⟩ else ⟨6, ByteArray.empty⟩

theorem words_any (w : World) (t : Ty) : Calls Try.prog 27 #[tyV t] w fun e w' => e = .returned (.int .i64 (words t)) ∧ Fr no w w' := by
  obtain ⟨k, c⟩ := t
  unfold tyV
  have HF : Hid (Fr no w (w.alloc (.cells #[.int .i64 k, .string c] 24))) := (Fr.refl no w).alloc _ _
  by_cases h2 : k = 2
  · subst h2
    have HE : Hid (words ⟨2, c⟩ = 2) := rfl
    go_enter Try.func27, Try.ntmps27
    go_wp2_with fail
    go_ret
    rw [HE.out]
    exact ⟨rfl, HF.out⟩
  have q2 : (k == 2) = false := by simpa using h2
  by_cases h1 : k = 1
  · subst h1
    have HE : Hid (words ⟨1, c⟩ = 1) := rfl
    go_enter Try.func27, Try.ntmps27
    go_wp2_with fail
    go_ret
    rw [HE.out]
    exact ⟨rfl, HF.out⟩
  have q1 : (k == 1) = false := by simpa using h1
  by_cases h3 : k = 3
  · subst h3
    have HE : Hid (words ⟨3, c⟩ = 1) := rfl
    go_enter Try.func27, Try.ntmps27
    go_wp2_with fail
    go_ret
    rw [HE.out]
    exact ⟨rfl, HF.out⟩
  have q3 : (k == 3) = false := by simpa using h3
  by_cases h4 : k = 4
  · subst h4
    have HE : Hid (words ⟨4, c⟩ = 1) := rfl
    go_enter Try.func27, Try.ntmps27
    go_wp2_with fail
    go_ret
    rw [HE.out]
    exact ⟨rfl, HF.out⟩
  have q4 : (k == 4) = false := by simpa using h4
  by_cases h5 : k = 5
  · subst h5
    have HE : Hid (words ⟨5, c⟩ = 1) := rfl
    go_enter Try.func27, Try.ntmps27
    go_wp2_with fail
    go_ret
    rw [HE.out]
    exact ⟨rfl, HF.out⟩
  have q5 : (k == 5) = false := by simpa using h5
  have HE : Hid (words ⟨k, c⟩ = 0) := by show _ = _; unfold words; rw [if_neg h2, if_neg (by simp; omega)]
  go_enter Try.func27, Try.ntmps27
  go_wp2_with fail
  go_ret
  rw [HE.out]
  exact ⟨rfl, HF.out⟩

theorem takes_any (w : World) (t : Ty) : Calls Try.prog 37 #[tyV t] w fun e w' => e = .returned (.bool (isRef t.k)) ∧ w' = w.alloc (.cells #[.int .i64 t.k, .string t.c] 24) := by
  obtain ⟨k, c⟩ := t
  unfold tyV
  by_cases h3 : k = 3
  · subst h3
    have HE : Hid (isRef 3 = true) := rfl
    go_enter Try.func37, Try.ntmps37
    go_wp2_with fail
    go_ret
    rw [HE.out]
    exact ⟨rfl, rfl⟩
  have q3 : (k == 3) = false := by simpa using h3
  have HE : Hid (isRef k = (k == 4)) := by show _ = _; unfold isRef; by_cases h : k = 4 <;> simp [h, h3]
  go_enter Try.func37, Try.ntmps37
  go_wp2_with fail
  go_ret
  rw [HE.out]
  exact ⟨rfl, rfl⟩

set_option maxHeartbeats 1000000 in
theorem fits_any {c : Nat} (w : World) (p : Nat) (N : List ByteArray) (A : List Nat) (h : HB c w p N A) (hA : Fine N.length A) (hN : N.length ≤ 1000) (a b : Ty) (ha : a.c.size ≤ 1099511627776) :
    Calls Try.prog 23 #[.pointer (some ⟨p, 0, none⟩), tyV a, tyV b] w fun e w' => e = .returned (.bool (fits N A a b)) ∧ Fr no w w' := by
  obtain ⟨ka, ca⟩ := a
  obtain ⟨kb, cb⟩ := b
  unfold tyV
  simp only [] at *
  have HF : Hid (Fr no w ((w.alloc (.cells #[.int .i64 ka, .string ca] 24)).alloc (.cells #[.int .i64 kb, .string cb] 24))) := ((Fr.refl no w).alloc _ _).alloc _ _
  have S := sub_any ((w.alloc (.cells #[.int .i64 ka, .string ca] 24)).alloc (.cells #[.int .i64 kb, .string cb] 24)) p N A (h.keep HF.out) hA hN ca cb ha
  clear h hA hN
  by_cases h6 : kb = 6
  · have HE : Hid (fits N A ⟨ka, ca⟩ ⟨kb, cb⟩ = true) := by show _ = _; subst h6; rfl
    subst h6
    clear S
    go_enter Try.func23, Try.ntmps23
    go_wp2_with fail
    go_ret
    rw [HE.out]
    exact ⟨by first | rfl | (simp; done) | (simp; omega), HF.out⟩
  have q6 : (kb == 6) = false := by simpa using h6
  by_cases h1 : kb = 1
  · have HE : Hid (fits N A ⟨ka, ca⟩ ⟨kb, cb⟩ = (ka == 1)) := by show _ = _; unfold fits; simp only []; rw [if_neg (by omega), if_pos (by omega), h1]
    subst h1
    clear S
    go_enter Try.func23, Try.ntmps23
    go_wp2_with fail
    go_ret
    rw [HE.out]
    exact ⟨by first | rfl | (simp; done) | (simp; omega), HF.out⟩
  have q1 : (kb == 1) = false := by simpa using h1
  by_cases h2 : kb = 2
  · have HE : Hid (fits N A ⟨ka, ca⟩ ⟨kb, cb⟩ = (ka == 2)) := by show _ = _; unfold fits; simp only []; rw [if_neg (by omega), if_pos (by omega), h2]
    subst h2
    clear S
    go_enter Try.func23, Try.ntmps23
    go_wp2_with fail
    go_ret
    rw [HE.out]
    exact ⟨by first | rfl | (simp; done) | (simp; omega), HF.out⟩
  have q2 : (kb == 2) = false := by simpa using h2
  by_cases h5 : kb = 5
  · have HE : Hid (fits N A ⟨ka, ca⟩ ⟨kb, cb⟩ = (ka == 5)) := by show _ = _; unfold fits; simp only []; rw [if_neg (by omega), if_pos (by omega), h5]
    subst h5
    clear S
    go_enter Try.func23, Try.ntmps23
    go_wp2_with fail
    go_ret
    rw [HE.out]
    exact ⟨by first | rfl | (simp; done) | (simp; omega), HF.out⟩
  have q5 : (kb == 5) = false := by simpa using h5
  by_cases h3 : kb = 3
  · clear S
    by_cases g3 : ka = 3
    · have HE : Hid (fits N A ⟨ka, ca⟩ ⟨kb, cb⟩ = true) := by show _ = _; unfold fits; simp only []; rw [if_neg h6, if_neg (by omega), if_pos h3]; simp [g3]
      subst h3 g3
      go_enter Try.func23, Try.ntmps23
      go_wp2_with fail
      go_ret
      rw [HE.out]
      exact ⟨by first | rfl | (simp; done) | (simp; omega), HF.out⟩
    have r3 : (ka == 3) = false := by simpa using g3
    have HE : Hid (fits N A ⟨ka, ca⟩ ⟨kb, cb⟩ = (ka == 5)) := by show _ = _; unfold fits; simp only []; rw [if_neg h6, if_neg (by omega), if_pos h3]; by_cases g : ka = 5 <;> simp [g, g3]
    subst h3
    go_enter Try.func23, Try.ntmps23
    go_wp2_with fail
    go_ret
    rw [HE.out]
    exact ⟨by first | rfl | (simp; done) | (simp; omega), HF.out⟩
  have q3 : (kb == 3) = false := by simpa using h3
  by_cases h4 : kb = 4
  · by_cases g5 : ka = 5
    · have HE : Hid (fits N A ⟨ka, ca⟩ ⟨kb, cb⟩ = true) := by show _ = _; unfold fits; simp only []; rw [if_neg h6, if_neg (by omega), if_neg h3, if_pos h4, if_pos g5]
      subst h4 g5
      clear S
      go_enter Try.func23, Try.ntmps23
      go_wp2_with fail
      go_ret
      rw [HE.out]
      exact ⟨by first | rfl | (simp; done) | (simp; omega), HF.out⟩
    have r5 : (ka == 5) = false := by simpa using g5
    by_cases g4 : ka = 4
    · have HE : Hid (fits N A ⟨ka, ca⟩ ⟨kb, cb⟩ = inL cb (anc N A ca)) := by show _ = _; unfold fits; simp only []; rw [if_neg h6, if_neg (by omega), if_neg h3, if_pos h4, if_neg g5, if_pos g4]
      subst h4 g4
      generalize inL cb (anc N A ca) = r at *
      go_enter Try.func23, Try.ntmps23
      go_wp2_with fail
      refine S.mono ?_
      rintro e w1 ⟨rfl, f1⟩
      have F1 : Hid (Fr no w w1) := HF.out.and f1
      clear f1
      go_wp2_with fail
      go_ret
      rw [HE.out]
      exact ⟨rfl, F1.out⟩
    have r4 : (ka == 4) = false := by simpa using g4
    have HE : Hid (fits N A ⟨ka, ca⟩ ⟨kb, cb⟩ = false) := by show _ = _; unfold fits; simp only []; rw [if_neg h6, if_neg (by omega), if_neg h3, if_pos h4, if_neg g5, if_neg g4]
    subst h4
    clear S
    go_enter Try.func23, Try.ntmps23
    go_wp2_with fail
    go_ret
    rw [HE.out]
    exact ⟨by first | rfl | (simp; done) | (simp; omega), HF.out⟩
  have q4 : (kb == 4) = false := by simpa using h4
  have HE : Hid (fits N A ⟨ka, ca⟩ ⟨kb, cb⟩ = false) := by show _ = _; unfold fits; simp only []; rw [if_neg h6, if_neg (by omega), if_neg h3, if_neg h4]
  clear S
  go_enter Try.func23, Try.ntmps23
  go_wp2_with fail
  go_ret
  rw [HE.out]
  exact ⟨by first | rfl | (simp; done) | (simp; omega), HF.out⟩
end Go.Proofs.Ytabiagheflkiaaa
