/- Pick. -/
import Derived.Test.YtancclmnliiijaaSd
namespace Go.Proofs.Ytancclmnliiijaa
open Go.ChangeShapes Go.WideShapes Go.ChangeAt Go.RowKit

/-- Of a row the one that a number stands for. -/
def pkN (l : List Int) (k : Int) : Int := l.getD (k % (l.length : Int)).toNat 0
def pkO (l : List Int) : Bool := !l.isEmpty

theorem pk_nil (k : Int) : pkN [] k = 0 := by simp [pkN]

theorem pk_at {l : List Int} (k : Int) (h : 0 < l.length) : ∃ i : Nat, k % (l.length : Int) = (i : Int) ∧ i < l.length ∧ l[i]? = some (pkN l k) := by
  have h1 := Int.emod_nonneg k (b := (l.length : Int)) (by omega)
  have h2 := Int.emod_lt_of_pos k (b := (l.length : Int)) (by omega)
  refine ⟨(k % (l.length : Int)).toNat, by omega, by omega, ?_⟩
  unfold pkN
  rw [List.getD_eq_getElem?_getD]
  have : (k % (l.length : Int)).toNat < l.length := by omega
  rw [List.getElem?_eq_getElem this]
  rfl

theorem tmod_neg {k m : Int} (hm : 0 < m) (h : Int.tmod k m < 0) : Int.tmod k m + m = k % m := by
  have hk : k < 0 := by
    refine Int.not_le.1 (fun h0 => ?_)
    have := Int.tmod_nonneg m h0
    omega
  have e := Int.tmod_eq_emod (a := k) (b := m)
  have h3 := Int.emod_nonneg k (b := m) (by omega)
  by_cases hd : 0 ≤ k ∨ m ∣ k
  · rw [if_pos hd] at e
    omega
  · rw [if_neg hd] at e
    have : (m.natAbs : Int) = m := by omega
    omega

theorem tmod_pos {k m : Int} (hm : 0 < m) (h : ¬ Int.tmod k m < 0) : Int.tmod k m = k % m := by
  have e := Int.tmod_eq_emod (a := k) (b := m)
  have h2 := Int.emod_lt_of_pos k hm
  have h3 := Int.emod_nonneg k (b := m) (by omega)
  by_cases hd : 0 ≤ k ∨ m ∣ k
  · rw [e, if_pos hd]
    omega
  · rw [if_neg hd] at e
    have : (m.natAbs : Int) = m := by omega
    omega

section
variable {w : World} {p n : Nat} {T : List (Int × Int)}

set_option maxRecDepth 100000 in
theorem pick_any (h : PS w p n T) (k : Int) : Calls Try.prog 18 #[.pointer (some ⟨p, 0, none⟩), .int .i64 k] w fun e w' => e = .returned (.tuple #[.int .i64 (pkN (sel rdy T n) k), .bool (pkO (sel rdy T n))]) ∧ Fr no w w' := by
  have RD := ready_any h
  have hl := sel_len rdy T n
  have hle := h.le
  clear h
  generalize sel rdy T n = l at *
  go_enter Try.func18, Try.ntmps18
  go_wp2_with fail
  refine RD.mono ?_
  rintro _ w1 ⟨v, rfl, how, -, hfr⟩
  clear RD
  have HF : Hid (Fr no w w1) := hfr
  clear hfr
  cases l with
  | nil =>
    obtain ⟨o, cap, rfl⟩ := how.form
    have HZ : Hid (pkN [] k = 0) := pk_nil k
    clear how
    go_wp2_with fail
    go_ret2
    exact ⟨by rw [HZ.out]; rfl, HF.out⟩
  | cons y l =>
    obtain ⟨i, hi, hil, hix⟩ := pk_at (l := y :: l) k (by simp)
    have HO : Hid (pkO (y :: l) = true) := rfl
    generalize hx : pkN (y :: l) k = x at hix
    have HX : Hid (pkN (y :: l) k = x) := hx
    clear hx
    have hm : 0 < (y :: l).length := by simp
    generalize y :: l = L at how hix hi hil hm hl
    obtain ⟨o, cap, rfl⟩ := how.form
    obtain ⟨b, off, rfl, c0⟩ := (how.rd elI_ok).at1 (u := .int .i64 x) rfl rfl hix
    clear how hix
    generalize L.length = m at *
    have hm0 : ((m : Int) == 0) = false := by simp; omega
    have hil' : (i : Int) < (m : Int) := by omega
    by_cases hneg : Int.tmod k (m : Int) < 0
    · have he := tmod_neg (by omega) hneg
      rw [hi] at he
      have he2 : wrap64 (Int.tmod k (m : Int) + (m : Int)) = (i : Int) := by rw [he]; unfold wrap64; omega
      clear hi he
      go_wp2_with fail
      go_ret2
      exact ⟨by rw [HX.out, HO.out]; rfl, HF.out⟩
    · have he := tmod_pos (by omega) hneg
      rw [hi] at he
      clear hi hneg
      go_wp2_with fail
      go_ret2
      exact ⟨by rw [HX.out, HO.out]; rfl, HF.out⟩
end
end Go.Proofs.Ytancclmnliiijaa
