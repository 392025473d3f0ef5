/- Plain facts that the statements NumBack and NumSpoilt lean on: what is printed is read back, and what quotient and rest make. -/
import Derived.Test.YtkeadhplijclcaaArith
import Derived.Test.YtkeadhplijclcaaDigits
namespace Go.Proofs.Ytkeadhplijclcaa
open Go.RowKit

theorem bstr_tx_size (a : Int) (h : rng a) : (bstr (tx a)).size ≤ 20 := by
  have e : (bstr (tx a)).size = (tx a).length := by rw [← nl_length, nl_bstr _ (tx_lt a)]
  rw [e]
  unfold tx
  have := digs_top a h
  rw [List.length_append, List.length_map]
  split <;> simp <;> omega

theorem bstr_tx_fits (a : Int) (h : rng a) : (bstr (tx a)).size ≤ maxLen := by
  have := bstr_tx_size a h
  unfold maxLen
  omega

theorem back (a : Int) (h : rng a) : pv (bstr (tx a)) = a ∧ pok (bstr (tx a)) = true := parsed_yes h (nl_bstr _ (tx_lt a))

theorem add_sub (a b : Int) (h : rng a) : wrap64 (wrap64 (a + b) - b) = a := by
  rw [w64_sub_l, show a + b - b = a by omega]; exact w64_rng h
theorem add_neg (a : Int) : wrap64 (a + wrap64 (-a)) = 0 := by
  rw [w64_add_r, show a + -a = 0 by omega]; exact w64_rng (by unfold rng; omega)

theorem rest_is (a b : Int) (hb : rng b) (h0 : b ≠ 0) : wrap64 (a - wrap64 (b * wrap64 (a.tdiv b))) = a.tmod b := by
  rw [w64_sub_r]
  have e : wrap64 (a - b * wrap64 (a.tdiv b)) = wrap64 (a - b * a.tdiv b) := by
    refine w64_congr ?_
    rw [Int.sub_emod, Int.mul_emod, w64_mod, ← Int.mul_emod, ← Int.sub_emod]
  rw [e, show a - b * a.tdiv b = a.tmod b by have := Int.mul_tdiv_add_tmod a b; omega]
  refine w64_rng ?_
  have h1 := Int.tmod_lt_of_pos a (b := b.natAbs) (by omega)
  have h2 : a.tmod b = a.tmod (b.natAbs : Int) := by
    rcases Int.natAbs_eq b with e | e
    · rw [← e]
    · exact (congrArg (fun x => a.tmod x) e).trans (Int.tmod_neg a _)
  have h3 := Int.lt_tmod_of_pos a (b := b.natAbs) (by omega)
  unfold rng at *
  omega

theorem rest_sides (a b : Int) (h0 : b ≠ 0) : (a.tmod b < (b.natAbs : Int) ∧ -(b.natAbs : Int) < a.tmod b) ∧ (a.tmod b = 0 ∨ (a.tmod b < 0 ↔ a < 0)) := by
  have h2 : a.tmod b = a.tmod (b.natAbs : Int) := by
    rcases Int.natAbs_eq b with e | e
    · rw [← e]
    · exact (congrArg (fun x => a.tmod x) e).trans (Int.tmod_neg a _)
  have h1 := Int.tmod_lt_of_pos a (b := b.natAbs) (by omega)
  have h3 := Int.lt_tmod_of_pos a (b := b.natAbs) (by omega)
  refine ⟨by omega, ?_⟩
  by_cases ha : 0 ≤ a
  · have := Int.tmod_nonneg b ha
    omega
  · have h4 : (-a).tmod b = -(a.tmod b) := Int.neg_tmod a b
    have := Int.tmod_nonneg b (a := -a) (by omega)
    omega

theorem whole_again (a b : Int) (ha : rng a) : wrap64 (wrap64 (wrap64 (a.tdiv b) * b) + a.tmod b) = a := by
  rw [w64_add_l, show wrap64 (wrap64 (a.tdiv b) * b + a.tmod b) = wrap64 (a.tdiv b * b + a.tmod b) from w64_congr (by
    rw [Int.add_emod, Int.mul_emod, w64_mod, ← Int.mul_emod, ← Int.add_emod])]
  rw [show a.tdiv b * b + a.tmod b = a by have := Int.mul_tdiv_add_tmod a b; rw [Int.mul_comm]; omega]
  exact w64_rng ha

theorem rest_facts (a b : Int) (ha : rng a) (hb : rng b) (h0 : b ≠ 0) : ∃ R, wrap64 (a - wrap64 (b * wrap64 (a.tdiv b))) = R ∧ wrap64 (wrap64 (wrap64 (a.tdiv b) * b) + R) = a ∧
    ((R < 0 ∧ b < 0 ∧ b < R ∧ a < 0) ∨ (R < 0 ∧ 0 < b ∧ -b < R ∧ a < 0) ∨ (R = 0 ∧ 0 < b) ∨ (0 < R ∧ 0 < b ∧ R < b ∧ 0 ≤ a) ∨ (R = 0 ∧ b < 0) ∨ (0 < R ∧ b < 0 ∧ b < -R ∧ 0 ≤ a)) := by
  refine ⟨a.tmod b, rest_is a b hb h0, whole_again a b ha, ?_⟩
  have := rest_sides a b h0
  omega
end Go.Proofs.Ytkeadhplijclcaa
