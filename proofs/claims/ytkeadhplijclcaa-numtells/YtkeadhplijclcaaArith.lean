/- What the small functions of package num answer, and that the statements' own look at known answers ('known') comes out true. -/
import Derived.Test.YtkeadhplijclcaaPrint
namespace Go.Proofs.Ytkeadhplijclcaa
open Go.ChangeShapes Go.WideShapes Go.ChangeAt Go.RowKit

theorem add_any (a b : Int) (w : World) : Calls Try.prog 15 #[.int .i64 a, .int .i64 b] w fun e w' => e = .returned (.int .i64 (wrap64 (a + b))) ∧ w = w' := by
  go_enter Try.func15, Try.ntmps15
  go_wp2
  go_ret
  exact ⟨rfl, rfl⟩
theorem sub_any (a b : Int) (w : World) : Calls Try.prog 17 #[.int .i64 a, .int .i64 b] w fun e w' => e = .returned (.int .i64 (wrap64 (a - b))) ∧ w = w' := by
  go_enter Try.func17, Try.ntmps17
  go_wp2
  go_ret
  exact ⟨rfl, rfl⟩
theorem mul_any (a b : Int) (w : World) : Calls Try.prog 19 #[.int .i64 a, .int .i64 b] w fun e w' => e = .returned (.int .i64 (wrap64 (a * b))) ∧ w = w' := by
  go_enter Try.func19, Try.ntmps19
  go_wp2
  go_ret
  exact ⟨rfl, rfl⟩
theorem neg_any (a : Int) (w : World) : Calls Try.prog 21 #[.int .i64 a] w fun e w' => e = .returned (.int .i64 (wrap64 (-a))) ∧ w = w' := by
  go_enter Try.func21, Try.ntmps21
  go_wp2
  go_ret
  exact ⟨rfl, rfl⟩
def oneIf (b : Bool) : Int := if b then 1 else 0
theorem less_any (a b : Int) (w : World) : Calls Try.prog 22 #[.int .i64 a, .int .i64 b] w fun e w' => e = .returned (.int .i64 (oneIf (decide (a < b)))) ∧ w = w' := by
  by_cases h : a < b
  · go_enter Try.func22, Try.ntmps22
    go_wp2
    go_ret
    simp [oneIf, h]
  · go_enter Try.func22, Try.ntmps22
    go_wp2
    go_ret
    simp [oneIf]
    omega
theorem same_any (a b : Int) (w : World) : Calls Try.prog 24 #[.int .i64 a, .int .i64 b] w fun e w' => e = .returned (.int .i64 (oneIf (a == b))) ∧ w = w' := by
  by_cases h : (a == b) = true
  · go_enter Try.func24, Try.ntmps24
    go_wp2
    go_ret
    exact ⟨by rw [h]; rfl, rfl⟩
  · have h' : (a == b) = false := by simpa using h
    clear h
    go_enter Try.func24, Try.ntmps24
    go_wp2
    go_ret
    exact ⟨by rw [h']; rfl, rfl⟩
theorem div_zero (a : Int) (w : World) : Calls Try.prog 9 #[.int .i64 a, .int .i64 0] w fun e w' => e = .returned (.tuple #[.int .i64 0, .int .i64 10]) ∧ w = w' := by
  go_enter Try.func9, Try.ntmps9
  go_wp2
  go_ret2
  exact ⟨rfl, rfl⟩
theorem div_any (a b : Int) (h : (b == 0) = false) (w : World) : Calls Try.prog 9 #[.int .i64 a, .int .i64 b] w fun e w' => e = .returned (.tuple #[.int .i64 (wrap64 (a.tdiv b)), .int .i64 0]) ∧ w = w' := by
  have hb : ¬ b = 0 := by simpa using h
  go_enter Try.func9, Try.ntmps9
  go_wp2
  go_ret2
  exact ⟨rfl, rfl⟩
theorem rem_zero (a : Int) (w : World) : Calls Try.prog 11 #[.int .i64 a, .int .i64 0] w fun e w' => e = .returned (.tuple #[.int .i64 0, .int .i64 10]) ∧ w = w' := by
  go_enter Try.func11, Try.ntmps11
  go_wp2_with (go_at_call 9; refine (div_zero _ _).mono ?_; rintro e w' ⟨rfl, rfl⟩)
  go_ret2
  exact ⟨rfl, rfl⟩
theorem rem_any (a b : Int) (h : (b == 0) = false) (w : World) : Calls Try.prog 11 #[.int .i64 a, .int .i64 b] w fun e w' => e = .returned (.tuple #[.int .i64 (wrap64 (a - wrap64 (b * wrap64 (a.tdiv b)))), .int .i64 0]) ∧ w = w' := by
  go_enter Try.func11, Try.ntmps11
  go_wp2_with (first | (go_at_call 9; refine (div_any _ _ h _).mono ?_; rintro e w' ⟨rfl, rfl⟩) | (go_at_call 19; refine (mul_any _ _ _).mono ?_; rintro e w' ⟨rfl, rfl⟩) | (go_at_call 17; refine (sub_any _ _ _).mono ?_; rintro e w' ⟨rfl, rfl⟩))
  go_ret2
  exact ⟨rfl, rfl⟩

theorem tx_five : bstr (tx (-5)) = ⟨#[45, 53]⟩ := by
  simp [tx, bstr, digs_small]

theorem known_any (w : World) : Calls Try.prog 8 #[] w fun e w' => e = .returned (.bool true) ∧ Grown w w' := by
  have h1 : wrap64 (-3) = -3 := by unfold wrap64; decide
  have h2 : wrap64 (-6) = -6 := by unfold wrap64; decide
  have h3 : wrap64 (-1) = -1 := by unfold wrap64; decide
  have h5 := tx_five
  go_enter Try.func8, Try.ntmps8
  go_wp2_with fail
  refine (div_any (-7) 2 (by decide) _).mono ?_
  rintro e w' ⟨rfl, rfl⟩
  go_wp2_with fail
  refine (rem_any (-7) 2 (by decide) _).mono ?_
  rintro e w' ⟨rfl, rfl⟩
  go_wp2_with fail
  refine (div_zero 1 _).mono ?_
  rintro e w' ⟨rfl, rfl⟩
  go_wp2_with fail
  refine (print_any (-5) (by unfold rng; omega) _).mono ?_
  rintro e w' ⟨rfl, hg⟩
  go_wp2
  go_ret
  exact ⟨rfl, hg⟩

theorem w64_mod (x : Int) : wrap64 x % 18446744073709551616 = x % 18446744073709551616 := by unfold wrap64; omega
theorem w64_congr {x y : Int} (h : x % 18446744073709551616 = y % 18446744073709551616) : wrap64 x = wrap64 y := by unfold wrap64; omega
theorem w64_rng {x : Int} (h : rng x) : wrap64 x = x := by unfold rng at h; unfold wrap64; omega
theorem rng_w64 (x : Int) : rng (wrap64 x) := by unfold rng wrap64; omega
theorem w64_add_l (x y : Int) : wrap64 (wrap64 x + y) = wrap64 (x + y) := w64_congr (by rw [Int.add_emod, w64_mod, ← Int.add_emod])
theorem w64_add_r (x y : Int) : wrap64 (x + wrap64 y) = wrap64 (x + y) := w64_congr (by rw [Int.add_emod, w64_mod, ← Int.add_emod])
theorem w64_sub_l (x y : Int) : wrap64 (wrap64 x - y) = wrap64 (x - y) := w64_congr (by rw [Int.sub_emod, w64_mod, ← Int.sub_emod])
theorem w64_sub_r (x y : Int) : wrap64 (x - wrap64 y) = wrap64 (x - y) := w64_congr (by rw [Int.sub_emod, w64_mod, ← Int.sub_emod])
theorem w64_mul_l (x y : Int) : wrap64 (wrap64 x * y) = wrap64 (x * y) := w64_congr (by rw [Int.mul_emod, w64_mod, ← Int.mul_emod])
theorem w64_mul_r (x y : Int) : wrap64 (x * wrap64 y) = wrap64 (x * y) := w64_congr (by rw [Int.mul_emod, w64_mod, ← Int.mul_emod])
theorem rng_of_wf {a : Int} (w : (Lit.int .i64 a).wf = true) : rng a := by
  have := bounds_i64 w
  unfold rng
  omega
end Go.Proofs.Ytkeadhplijclcaa
