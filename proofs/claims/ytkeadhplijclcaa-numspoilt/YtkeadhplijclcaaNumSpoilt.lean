/- NumSpoilt answers true at every integer and every way to spoil its text: with a nought, a sign or a blank ahead, or a blank or a letter behind, package num reads it as no integer. -/
import Derived.Test.YtkeadhplijclcaaRows
import Derived.Test.YtkeadhplijclcaaParse
import Derived.Test.YtkeadhplijclcaaSpoil
import Derived.WalkKit
import Derived.ProofKit
import Derived.OpenShut
namespace Go.Proofs.Ytkeadhplijclcaa.numSpoilt
open Go.ChangeShapes Go.WideShapes Go.ChangeAt Go.RowKit
set_option linter.unusedVariables false

theorem own : ownKnob Try.prog.godebug = none := by kernel_rfl

set_option maxHeartbeats 2000000 in
theorem walk (a0 : Int) (a1 : Int) (w0 : (Lit.int .i64 a0).wf = true) (w1 : (Lit.int .u8 a1).wf = true) (w : World) :
    Calls Try.prog 7 #[.int .i64 a0, .int .u8 a1] w fun e w' => e = .returned (.bool true) ∧ Grown w w' := by
  have hr0 := rng_of_wf w0
  have hfit := bstr_tx_fits a0 hr0
  have hsz := bstr_tx_size a0 hr0
  obtain ⟨hp1, hp2⟩ := back a0 hr0
  obtain ⟨hb0, hb1⟩ := bounds_u8 w1
  have h5 : a1 % 5 = 0 ∨ a1 % 5 = 1 ∨ a1 % 5 = 2 ∨ a1 % 5 = 3 ∨ a1 % 5 = 4 := by omega
  rcases h5 with h5 | h5 | h5 | h5 | h5
  · have hf := (spoilt_fits a0 hr0 48).1
    obtain ⟨hn1, hn2⟩ := spoilt_nought a0
    go_enter Try.func7, Try.ntmps7
    go_wp2_with fail
    refine (known_any _).mono ?_
    rintro e w1' ⟨rfl, hg⟩
    go_wp2_with fail
    refine (print_any _ hr0 _).mono ?_
    rintro e w2' ⟨rfl, hg2⟩
    go_wp2_with fail
    refine (parse_any _ hf _).mono ?_
    rintro e w3' ⟨rfl, rfl⟩
    go_wp2_with fail
    refine (parse_any _ hfit _).mono ?_
    rintro e w3' ⟨rfl, rfl⟩
    go_wp2_with fail
    refine (rem_zero _ _).mono ?_
    rintro e w3' ⟨rfl, rfl⟩
    go_wp2_with fail
    go_ret
    exact ⟨rfl, (grown_trans hg hg2).alloc _ _⟩
  · have hf := (spoilt_fits a0 hr0 43).1
    obtain ⟨hn1, hn2⟩ := spoilt_ahead a0 43 (by decide)
    go_enter Try.func7, Try.ntmps7
    go_wp2_with fail
    refine (known_any _).mono ?_
    rintro e w1' ⟨rfl, hg⟩
    go_wp2_with fail
    refine (print_any _ hr0 _).mono ?_
    rintro e w2' ⟨rfl, hg2⟩
    go_wp2_with fail
    refine (parse_any _ hf _).mono ?_
    rintro e w3' ⟨rfl, rfl⟩
    go_wp2_with fail
    refine (parse_any _ hfit _).mono ?_
    rintro e w3' ⟨rfl, rfl⟩
    go_wp2_with fail
    refine (rem_zero _ _).mono ?_
    rintro e w3' ⟨rfl, rfl⟩
    go_wp2_with fail
    go_ret
    exact ⟨rfl, (grown_trans hg hg2).alloc _ _⟩
  · have hf := (spoilt_fits a0 hr0 32).1
    obtain ⟨hn1, hn2⟩ := spoilt_ahead a0 32 (by decide)
    go_enter Try.func7, Try.ntmps7
    go_wp2_with fail
    refine (known_any _).mono ?_
    rintro e w1' ⟨rfl, hg⟩
    go_wp2_with fail
    refine (print_any _ hr0 _).mono ?_
    rintro e w2' ⟨rfl, hg2⟩
    go_wp2_with fail
    refine (parse_any _ hf _).mono ?_
    rintro e w3' ⟨rfl, rfl⟩
    go_wp2_with fail
    refine (parse_any _ hfit _).mono ?_
    rintro e w3' ⟨rfl, rfl⟩
    go_wp2_with fail
    refine (rem_zero _ _).mono ?_
    rintro e w3' ⟨rfl, rfl⟩
    go_wp2_with fail
    go_ret
    exact ⟨rfl, (grown_trans hg hg2).alloc _ _⟩
  · have hf := (spoilt_fits a0 hr0 32).2
    obtain ⟨hn1, hn2⟩ := spoilt_behind a0 32 (by decide)
    go_enter Try.func7, Try.ntmps7
    go_wp2_with fail
    refine (known_any _).mono ?_
    rintro e w1' ⟨rfl, hg⟩
    go_wp2_with fail
    refine (print_any _ hr0 _).mono ?_
    rintro e w2' ⟨rfl, hg2⟩
    go_wp2_with fail
    refine (parse_any _ hf _).mono ?_
    rintro e w3' ⟨rfl, rfl⟩
    go_wp2_with fail
    refine (parse_any _ hfit _).mono ?_
    rintro e w3' ⟨rfl, rfl⟩
    go_wp2_with fail
    refine (rem_zero _ _).mono ?_
    rintro e w3' ⟨rfl, rfl⟩
    go_wp2_with fail
    go_ret
    exact ⟨rfl, (grown_trans hg hg2).alloc _ _⟩
  · have hf := (spoilt_fits a0 hr0 120).2
    obtain ⟨hn1, hn2⟩ := spoilt_behind a0 120 (by decide)
    go_enter Try.func7, Try.ntmps7
    go_wp2_with fail
    refine (known_any _).mono ?_
    rintro e w1' ⟨rfl, hg⟩
    go_wp2_with fail
    refine (print_any _ hr0 _).mono ?_
    rintro e w2' ⟨rfl, hg2⟩
    go_wp2_with fail
    refine (parse_any _ hf _).mono ?_
    rintro e w3' ⟨rfl, rfl⟩
    go_wp2_with fail
    refine (parse_any _ hfit _).mono ?_
    rintro e w3' ⟨rfl, rfl⟩
    go_wp2_with fail
    refine (rem_zero _ _).mono ?_
    rintro e w3' ⟨rfl, rfl⟩
    go_wp2_with fail
    go_ret
    exact ⟨rfl, (grown_trans hg hg2).alloc _ _⟩

set_option maxRecDepth 100000 in
theorem lifted (os : Os) (started : os.Started) (H : Type) (enc : TypeId × Value → H) :
    ReturnsInHanded {} Try.checked os 7 .any (Rows.numSpoiltSpec.pre6 enc Try.prog Try.f7 Rows.numSpoiltRow.domain false) (Rows.numSpoiltSpec.post enc Try.prog Try.f7 false true false false) := by
  refine returnsInHanded_of_change (C := Try.checked) own started (by kernel_rfl) Try.func7
    (ChangeSpec.witness6 (enc := enc) (C := Try.checked) false ⟨#[], #[.int .i64 0, .int .u8 0], []⟩ 8 (by kernel_rfl) (by kernel_rfl) (by kernel_rfl) (by kernel_rfl)) ?_
  intro W base args ds gs before hval0 hW hcnd _
  have hval : ∀ (j : Nat) t v, Try.f7.params[j]? = some t → args[j]? = some v → Value.okWide Try.prog W .any base t v := hval0
  have hW' := hW
  obtain ⟨p, q, hA0, hV, rfl, hfz, hnd⟩ := hW
  have hA : DataW.TrodAll enc Try.prog W 0 (fun _ => true) true Try.f7.params.toList args.toList ds p := hA0
  rw [Try.params7] at hA hval
  obtain ⟨v0, vs0, d0, ds0, p0, q0, hargs, rfl, rfl, h0, r0⟩ := trodAll_cons hA
  obtain ⟨v1, vs1, d1, ds1, p1, q1, rfl, rfl, rfl, h1, r1⟩ := trodAll_cons r0
  obtain ⟨rfl, rfl, rfl⟩ := trodAll_nil r1
  obtain rfl : args = #[v0, v1] := by cases args; simp_all
  obtain ⟨rfl, rfl⟩ := trodVars_none hV
  obtain ⟨a0, rfl, rfl, rfl, w0⟩ := open_int Try.underlying2 (hval 0 2 v0 rfl rfl) h0
  obtain ⟨a1, rfl, rfl, rfl, w1⟩ := open_int Try.underlying5 (hval 1 5 v1 rfl rfl) h1
  clear hA0 hval0
  simp only [List.append_nil] at hW'
  refine (walk a0 a1 w0 w1 W).mono fun e W' ⟨he, hg⟩ => ?_
  subst he
  exact ⟨_, rfl, post_of_same (pa := []) (pv := []) hW' (fun _ _ _ => (trodAll_cons_mk (shut_bool Try.underlying4 _) trodAll_mk0)) (fun sp _ => (trodAll_cons_mk (shut_int Try.underlying2 w0) (trodAll_cons_mk (shut_int Try.underlying5 w1) trodAll_mk0))) (fun _ _ => rfl) rfl
    (hg.frame _) hg.2.1 (ok_one (by kernel_rfl) rfl (okWide_bool_mk Try.underlying4 _))⟩

theorem over : Rows.numSpoiltRow.holds Try.pinned (OpenSpec.ofChange Rows.numSpoiltSpec) :=
  OpenClaim.holds_of_wide 7 Try.f7 rfl rfl rfl rfl rfl rfl rfl ⟨rfl, rfl, rfl, rfl, rfl⟩ rfl rfl rfl rfl rfl (by kernel_rfl) Try.func7 (by kernel_rfl)
    (of_decide_eq_true (by kernel_rfl)) (by unfold Func.isWrapper; first | (rw [if_pos (by decide +kernel)]; kernel_rfl) | (rw [if_neg (by decide +kernel)]; exact ⟨rfl, rfl⟩))
    (fun os started H enc _ => lifted os started H enc)

theorem proved : Rows.NumSpoiltSaid :=
  over
#print axioms proved
end Go.Proofs.Ytkeadhplijclcaa.numSpoilt
