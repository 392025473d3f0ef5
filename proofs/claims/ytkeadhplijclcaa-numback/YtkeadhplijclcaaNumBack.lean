/- NumBack answers true at every two integers: what package num prints it reads back, sums are undone by differences, and quotient and rest make the whole again, the rest being smaller than what was divided by and of the whole's side. -/
import Derived.Test.YtkeadhplijclcaaRows
import Derived.Test.YtkeadhplijclcaaParse
import Derived.Test.YtkeadhplijclcaaBack
import Derived.WalkKit
import Derived.ProofKit
import Derived.OpenShut
namespace Go.Proofs.Ytkeadhplijclcaa.numBack
open Go.ChangeShapes Go.WideShapes Go.ChangeAt Go.RowKit
set_option linter.unusedVariables false

theorem own : ownKnob Try.prog.godebug = none := by kernel_rfl

theorem same_side {R a : Int} (h1 : 0 < R) (h2 : 0 ≤ a) : (R == 0 || decide (R < 0) == decide (a < 0)) = true := by
  have e1 : decide (R < 0) = false := decide_eq_false (by omega)
  have e2 : decide (a < 0) = false := decide_eq_false (by omega)
  rw [e1, e2]
  simp

set_option maxHeartbeats 2000000 in
theorem walk (a0 : Int) (a1 : Int) (w0 : (Lit.int .i64 a0).wf = true) (w1 : (Lit.int .i64 a1).wf = true) (w : World) :
    Calls Try.prog 4 #[.int .i64 a0, .int .i64 a1] w fun e w' => e = .returned (.bool true) ∧ Grown w w' := by
  have hr0 := rng_of_wf w0
  have hr1 := rng_of_wf w1
  have hfit := bstr_tx_fits a0 hr0
  obtain ⟨hp1, hp2⟩ := back a0 hr0
  have e1 := add_sub a0 a1 hr0
  have e2 := add_neg a0
  by_cases hb : a1 = 0
  · subst hb
    have hw := w64_rng hr0
    clear e1
    go_enter Try.func4, Try.ntmps4
    go_wp2_with fail
    refine (known_any _).mono ?_
    rintro e w1' ⟨rfl, hg⟩
    go_wp2_with fail
    refine (print_any _ hr0 _).mono ?_
    rintro e w2' ⟨rfl, hg2⟩
    go_wp2_with fail
    refine (parse_any _ hfit _).mono ?_
    rintro e w3' ⟨rfl, rfl⟩
    go_wp2_with (first | (go_at_call 15; refine (add_any _ _ _).mono ?_; rintro e w' ⟨rfl, rfl⟩) | (go_at_call 17; refine (sub_any _ _ _).mono ?_; rintro e w' ⟨rfl, rfl⟩) | (go_at_call 21; refine (neg_any _ _).mono ?_; rintro e w' ⟨rfl, rfl⟩) | (go_at_call 9; refine (div_zero _ _).mono ?_; rintro e w' ⟨rfl, rfl⟩) | (go_at_call 11; refine (rem_zero _ _).mono ?_; rintro e w' ⟨rfl, rfl⟩))
    go_ret
    exact ⟨rfl, grown_trans hg hg2⟩
  · have hb' : (a1 == 0) = false := by simpa using hb
    obtain ⟨R, hR, hW, hS⟩ := rest_facts a0 a1 hr0 hr1 hb
    obtain ⟨hlo, hhi⟩ := hr1
    clear hb
    rcases hS with ⟨s1, s2, s3, s4⟩ | ⟨s1, s2, s3, s4⟩ | ⟨rfl, s2⟩ | ⟨s1, s2, s3, s4⟩ | ⟨rfl, s2⟩ | ⟨s1, s2, s3, s4⟩
    all_goals
      try rw [Int.add_zero] at hW
      go_enter Try.func4, Try.ntmps4
      go_wp2_with fail
      refine (known_any _).mono ?_
      rintro e w1' ⟨rfl, hg⟩
      go_wp2_with fail
      refine (print_any _ hr0 _).mono ?_
      rintro e w2' ⟨rfl, hg2⟩
      go_wp2_with fail
      refine (parse_any _ hfit _).mono ?_
      rintro e w3' ⟨rfl, rfl⟩
      go_wp2_with (first | (go_at_call 15; refine (add_any _ _ _).mono ?_; rintro e w' ⟨rfl, rfl⟩) | (go_at_call 17; refine (sub_any _ _ _).mono ?_; rintro e w' ⟨rfl, rfl⟩) | (go_at_call 19; refine (mul_any _ _ _).mono ?_; rintro e w' ⟨rfl, rfl⟩) | (go_at_call 21; refine (neg_any _ _).mono ?_; rintro e w' ⟨rfl, rfl⟩) | (go_at_call 9; refine (div_any _ _ hb' _).mono ?_; rintro e w' ⟨rfl, rfl⟩) | (go_at_call 11; refine (rem_any _ _ hb' _).mono ?_; rintro e w' ⟨rfl, rfl⟩))
      go_ret
      first | exact ⟨rfl, grown_trans hg hg2⟩ | exact ⟨congrArg (fun b => Ending.returned (Value.bool b)) (same_side s1 s4), grown_trans hg hg2⟩

set_option maxRecDepth 100000 in
theorem lifted (os : Os) (started : os.Started) (H : Type) (enc : TypeId × Value → H) :
    ReturnsInHanded {} Try.checked os 4 .any (Rows.numBackSpec.pre6 enc Try.prog Try.f4 Rows.numBackRow.domain false) (Rows.numBackSpec.post enc Try.prog Try.f4 false true false false) := by
  refine returnsInHanded_of_change (C := Try.checked) own started (by kernel_rfl) Try.func4
    (ChangeSpec.witness6 (enc := enc) (C := Try.checked) false ⟨#[], #[.int .i64 0, .int .i64 0], []⟩ 8 (by kernel_rfl) (by kernel_rfl) (by kernel_rfl) (by kernel_rfl)) ?_
  intro W base args ds gs before hval0 hW hcnd _
  have hval : ∀ (j : Nat) t v, Try.f4.params[j]? = some t → args[j]? = some v → Value.okWide Try.prog W .any base t v := hval0
  have hW' := hW
  obtain ⟨p, q, hA0, hV, rfl, hfz, hnd⟩ := hW
  have hA : DataW.TrodAll enc Try.prog W 0 (fun _ => true) true Try.f4.params.toList args.toList ds p := hA0
  rw [Try.params4] at hA hval
  obtain ⟨v0, vs0, d0, ds0, p0, q0, hargs, rfl, rfl, h0, r0⟩ := trodAll_cons hA
  obtain ⟨v1, vs1, d1, ds1, p1, q1, rfl, rfl, rfl, h1, r1⟩ := trodAll_cons r0
  obtain ⟨rfl, rfl, rfl⟩ := trodAll_nil r1
  obtain rfl : args = #[v0, v1] := by cases args; simp_all
  obtain ⟨rfl, rfl⟩ := trodVars_none hV
  obtain ⟨a0, rfl, rfl, rfl, w0⟩ := open_int Try.underlying2 (hval 0 2 v0 rfl rfl) h0
  obtain ⟨a1, rfl, rfl, rfl, w1⟩ := open_int Try.underlying2 (hval 1 2 v1 rfl rfl) h1
  clear hA0 hval0
  simp only [List.append_nil] at hW'
  refine (walk a0 a1 w0 w1 W).mono fun e W' ⟨he, hg⟩ => ?_
  subst he
  exact ⟨_, rfl, post_of_same (pa := []) (pv := []) hW' (fun _ _ _ => (trodAll_cons_mk (shut_bool Try.underlying4 _) trodAll_mk0)) (fun sp _ => (trodAll_cons_mk (shut_int Try.underlying2 w0) (trodAll_cons_mk (shut_int Try.underlying2 w1) trodAll_mk0))) (fun _ _ => rfl) rfl
    (hg.frame _) hg.2.1 (ok_one (by kernel_rfl) rfl (okWide_bool_mk Try.underlying4 _))⟩

theorem over : Rows.numBackRow.holds Try.pinned (OpenSpec.ofChange Rows.numBackSpec) :=
  OpenClaim.holds_of_wide 4 Try.f4 rfl rfl rfl rfl rfl rfl rfl ⟨rfl, rfl, rfl, rfl, rfl⟩ rfl rfl rfl rfl rfl (by kernel_rfl) Try.func4 (by kernel_rfl)
    (of_decide_eq_true (by kernel_rfl)) (by unfold Func.isWrapper; first | (rw [if_pos (by decide +kernel)]; kernel_rfl) | (rw [if_neg (by decide +kernel)]; exact ⟨rfl, rfl⟩))
    (fun os started H enc _ => lifted os started H enc)

theorem proved : Rows.NumBackSaid :=
  over
#print axioms proved
end Go.Proofs.Ytkeadhplijclcaa.numBack
