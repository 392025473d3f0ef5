/- NumHalves answers true at every integer and every count: by package num a product of a number and 2 to the k is a shift by k, and from 2 to the 64 on it is nought. -/
import Derived.Test.YtkeadhplijclcaaRows
import Derived.Test.YtkeadhplijclcaaArith
import Derived.WalkKit
import Derived.ProofKit
import Derived.OpenShut
namespace Go.Proofs.Ytkeadhplijclcaa.numHalves
open Go.ChangeShapes Go.WideShapes Go.ChangeAt Go.RowKit
set_option linter.unusedVariables false

theorem own : ownKnob Try.prog.godebug = none := by kernel_rfl

def sh (a : Int) (j : Nat) : Int := wrap64 (a * 2 ^ j)
theorem sh_zero {a : Int} (h : rng a) : sh a 0 = a := by unfold sh; rw [Int.pow_zero, Int.mul_one]; exact w64_rng h
theorem sh_succ (a : Int) (j : Nat) : wrap64 (sh a j * 2) = sh a (j + 1) := by
  unfold sh
  rw [w64_mul_l, Int.mul_assoc, ← Int.pow_succ]
theorem sh_great (a : Int) (j : Nat) (h : 64 ≤ j) : sh a j = 0 := by
  obtain ⟨i, rfl⟩ : ∃ i, j = i + 64 := ⟨j - 64, by omega⟩
  have e : a * 2 ^ (i + 64) = (a * 2 ^ i) * 18446744073709551616 := by
    rw [Int.pow_add, Int.mul_assoc]; rfl
  unfold sh
  rw [e, show (0 : Int) = wrap64 0 from by unfold wrap64; decide]
  exact w64_congr (by omega)
theorem u64_wrap (x : Int) : IntKind.u64.wrap x = x % 18446744073709551616 := by simp [IntKind.wrap, IntKind.signed, IntKind.bits]
theorem sh_shift (a : Int) (j : Nat) : (sh a j == wrap64 (IntKind.u64.wrap (IntKind.u64.wrap a * 2 ^ j))) = true := by
  unfold sh
  rw [beq_iff_eq, u64_wrap, u64_wrap]
  refine w64_congr ?_
  have e : a % 18446744073709551616 * 2 ^ j % 18446744073709551616 = a * 2 ^ j % 18446744073709551616 :=
    (Int.mul_emod (a % 18446744073709551616) (2 ^ j) 18446744073709551616).trans (by rw [Int.emod_emod_of_dvd a (Int.dvd_refl _), ← Int.mul_emod])
  rw [e, Int.emod_emod_of_dvd _ (Int.dvd_refl _)]
theorem twice (a : Int) : (wrap64 (a + a) == wrap64 (a * 2)) = true := by
  rw [show a * 2 = a + a by omega]; exact beq_self_eq_true _

set_option maxHeartbeats 2000000 in
theorem walk (a0 : Int) (a1 : Int) (w0 : (Lit.int .i64 a0).wf = true) (w1 : (Lit.int .u8 a1).wf = true) (w : World) :
    Calls Try.prog 6 #[.int .i64 a0, .int .u8 a1] w fun e w' => e = .returned (.bool true) ∧ Grown w w' := by
  have hr := rng_of_wf w0
  obtain ⟨hb0, hb1⟩ := bounds_u8 w1
  obtain ⟨m, hm⟩ : ∃ m : Nat, a1 % 70 = (m : Int) := ⟨(a1 % 70).toNat, by omega⟩
  have hm70 : m < 70 := by omega
  have hz := sh_zero hr
  go_enter Try.func6, Try.ntmps6
  go_wp2_with fail
  refine (known_any _).mono ?_
  rintro e w1' ⟨rfl, hg⟩
  go_wp2_with fail
  go_loop [5, 6] (fun n i => ∃ j : Nat, j ≤ m ∧ i = .int .i64 j ∧ n = .int .i64 (sh a0 j)) (fun _ i => m - (intOf i).toNat)
  case atStart => exact ⟨0, Nat.zero_le _, rfl, by rw [hz]⟩
  case round =>
    obtain ⟨j, hj, rfl, rfl⟩ := hrel
    by_cases hlt : j < m
    · have hs := sh_succ a0 j
      go_wp2_with (go_at_call 19; refine (mul_any _ _ _).mono ?_; rintro e w' ⟨rfl, rfl⟩)
      go_round
      case rel => exact ⟨j + 1, by omega, by go_num, rfl⟩
      case measure => simp [intOf]; omega
    · obtain rfl : j = m := by omega
      by_cases h64 : 64 ≤ j
      · have hs := sh_great a0 j h64
        go_wp2_with fail
        go_ret
        exact ⟨rfl, hg⟩
      · clear hz
        have hs := sh_shift a0 j
        have ht := twice a0
        go_wp2_with (first | (go_at_call 15; refine (add_any _ _ _).mono ?_; rintro e w' ⟨rfl, rfl⟩) | (go_at_call 19; refine (mul_any _ _ _).mono ?_; rintro e w' ⟨rfl, rfl⟩))
        go_ret
        exact ⟨rfl, hg⟩

set_option maxRecDepth 100000 in
theorem lifted (os : Os) (started : os.Started) (H : Type) (enc : TypeId × Value → H) :
    ReturnsInHanded {} Try.checked os 6 .any (Rows.numHalvesSpec.pre6 enc Try.prog Try.f6 Rows.numHalvesRow.domain false) (Rows.numHalvesSpec.post enc Try.prog Try.f6 false true false false) := by
  refine returnsInHanded_of_change (C := Try.checked) own started (by kernel_rfl) Try.func6
    (ChangeSpec.witness6 (enc := enc) (C := Try.checked) false ⟨#[], #[.int .i64 0, .int .u8 0], []⟩ 8 (by kernel_rfl) (by kernel_rfl) (by kernel_rfl) (by kernel_rfl)) ?_
  intro W base args ds gs before hval0 hW hcnd _
  have hval : ∀ (j : Nat) t v, Try.f6.params[j]? = some t → args[j]? = some v → Value.okWide Try.prog W .any base t v := hval0
  have hW' := hW
  obtain ⟨p, q, hA0, hV, rfl, hfz, hnd⟩ := hW
  have hA : DataW.TrodAll enc Try.prog W 0 (fun _ => true) true Try.f6.params.toList args.toList ds p := hA0
  rw [Try.params6] at hA hval
  obtain ⟨v0, vs0, d0, ds0, p0, q0, hargs, rfl, rfl, h0, r0⟩ := trodAll_cons hA
  obtain ⟨v1, vs1, d1, ds1, p1, q1, rfl, rfl, rfl, h1, r1⟩ := trodAll_cons r0
  obtain ⟨rfl, rfl, rfl⟩ := trodAll_nil r1
  obtain rfl : args = #[v0, v1] := by cases args; simp_all
  obtain ⟨rfl, rfl⟩ := trodVars_none hV
  obtain ⟨a0, rfl, rfl, rfl, w0⟩ := open_int Try.underlying2 (hval 0 2 v0 rfl rfl) h0
  obtain ⟨a1, rfl, rfl, rfl, w1⟩ := open_int Try.underlying5 (hval 1 5 v1 rfl rfl) h1
  clear hA0 hval0
  simp only [List.append_nil] at hW'
  refine (walk a0 a1 w0 w1 W).mono fun e W' ⟨he, hg⟩ => ?_
  subst he
  exact ⟨_, rfl, post_of_same (pa := []) (pv := []) hW' (fun _ _ _ => (trodAll_cons_mk (shut_bool Try.underlying4 _) trodAll_mk0)) (fun sp _ => (trodAll_cons_mk (shut_int Try.underlying2 w0) (trodAll_cons_mk (shut_int Try.underlying5 w1) trodAll_mk0))) (fun _ _ => rfl) rfl
    (hg.frame _) hg.2.1 (ok_one (by kernel_rfl) rfl (okWide_bool_mk Try.underlying4 _))⟩

theorem over : Rows.numHalvesRow.holds Try.pinned (OpenSpec.ofChange Rows.numHalvesSpec) :=
  OpenClaim.holds_of_wide 6 Try.f6 rfl rfl rfl rfl rfl rfl rfl ⟨rfl, rfl, rfl, rfl, rfl⟩ rfl rfl rfl rfl rfl (by kernel_rfl) Try.func6 (by kernel_rfl)
    (of_decide_eq_true (by kernel_rfl)) (by unfold Func.isWrapper; first | (rw [if_pos (by decide +kernel)]; kernel_rfl) | (rw [if_neg (by decide +kernel)]; exact ⟨rfl, rfl⟩))
    (fun os started H enc _ => lifted os started H enc)

theorem proved : Rows.NumHalvesSaid :=
  over
#print axioms proved
end Go.Proofs.Ytkeadhplijclcaa.numHalves
