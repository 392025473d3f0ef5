/- CplxTurns answers true at every two integers of 32 bits: four times by i a number is itself, twice it is its opposite, and the norm stays. -/
import Derived.Test.YtlehddfefinadaaRows
import Derived.Test.YtlehddfefinadaaWhole
import Derived.WalkKit
import Derived.ProofKit
import Derived.OpenShut
import Derived.ShutString
namespace Go.Proofs.Ytlehddfefinadaa.cplxTurns
open Go.ChangeShapes Go.WideShapes Go.ChangeAt Go.RowKit
open Go.ChangeMaps (open_string shut_string)
set_option linter.unusedVariables false

theorem own : ownKnob Try.prog.godebug = none := by kernel_rfl

set_option maxHeartbeats 1000000 in
theorem walk (a0 : Int) (a1 : Int) (w0 : (Lit.int .i32 a0).wf = true) (w1 : (Lit.int .i32 a1).wf = true) (w : World) :
    Calls Try.prog 6 #[.int .i32 a0, .int .i32 a1] w fun e w' => e = .returned (.bool true) ∧ Grown w w' := by
  obtain ⟨hb0, hb1⟩ := bounds_i32 w0
  obtain ⟨hb2, hb3⟩ := bounds_i32 w1
  have s0 : small a0 := by unfold small; omega
  have s1 : small a1 := by unfold small; omega
  have s0' : small (-a0) := by unfold small; omega
  have s1' : small (-a1) := by unfold small; omega
  have sz : small 0 := by unfold small; decide
  have r0 := rep_int s0
  have r1 := rep_int s1
  have hneg := run_neg
  go_enter Try.func6, Try.ntmps6
  go_wp2_with fail
  refine (known_any _).mono ?_
  rintro e w1 ⟨rfl, g1⟩
  go_wp2_with fail
  refine (mul_any _ _ _ _ _).mono ?_
  rintro e w2 ⟨yr, yi, rfl, p1, g2⟩
  obtain ⟨q1, q2⟩ := turn r0 r1 s0 s1 p1
  clear p1
  go_wp2_with fail
  refine (mul_any _ _ _ _ _).mono ?_
  rintro e w3 ⟨zr, zi, rfl, p2, g3⟩
  obtain ⟨q3, q4⟩ := turn q1 q2 s1' s0 p2
  clear p2
  go_wp2_with fail
  refine (mul_any _ _ _ _ _).mono ?_
  rintro e w4 ⟨ur, ui, rfl, p3, g4⟩
  obtain ⟨q5, q6⟩ := turn q3 q4 s0' s1' p3
  clear p3
  go_wp2_with fail
  refine (mul_any _ _ _ _ _).mono ?_
  rintro e w5 ⟨vr, vi, rfl, p4, g5⟩
  rw [Int.neg_neg] at q5
  obtain ⟨q7, q8⟩ := turn q5 q6 s1 s0' p4
  rw [Int.neg_neg] at q7
  clear p4
  go_wp2_with fail
  refine (sub_any _ _ _ _ _).mono ?_
  rintro e w6 ⟨dr, di, rfl, p5, g6⟩
  have d1 := out_sub rep_zero r0 sz s0 (by simpa using s0') p5.1
  have d2 := out_sub rep_zero r1 sz s1 (by simpa using s1') p5.2
  clear p5
  have h1 : FloatKind.f64.format.order zr dr = some .eq := rep_order q3 d1 s0' (by simpa using s0') (by omega)
  have h2 : FloatKind.f64.format.order zi di = some .eq := rep_order q4 d2 s1' (by simpa using s1') (by omega)
  have h3 : FloatKind.f64.format.order vr (floatOfInt .f64 a0) = some .eq := rep_order q7 r0 s0 s0 rfl
  have h4 : FloatKind.f64.format.order vi (floatOfInt .f64 a1) = some .eq := rep_order q8 r1 s1 s1 rfl
  have h5 : FloatKind.f64.format.order yr (Op.negFloat .f64 (floatOfInt .f64 a1)) = some .eq := rep_order q1 (rep_neg r1 s1) s1' s1' rfl
  have h6 : FloatKind.f64.format.order yi (floatOfInt .f64 a0) = some .eq := rep_order q2 r0 s0 s0 rfl
  go_wp2_with fail
  refine (norm_any _ _ _).mono ?_
  rintro e w7 ⟨n1, rfl, m1, g7⟩
  go_wp2_with fail
  refine (norm_any _ _ _).mono ?_
  rintro e w8 ⟨n2, rfl, m2, g8⟩
  have h7 : FloatKind.f64.format.order n1 n2 = some .eq := norm_turned r0 r1 q1 q2 s0 s1 m2 m1
  go_wp2_with fail
  go_ret
  exact ⟨rfl, grown_trans g1 (grown_trans g2 (grown_trans g3 (grown_trans g4 (grown_trans g5 (grown_trans g6 (grown_trans g7 g8))))))⟩

set_option maxRecDepth 100000 in
theorem lifted (os : Os) (started : os.Started) (H : Type) (enc : TypeId × Value → H) :
    ReturnsInHanded {} Try.checked os 6 .any (Rows.cplxTurnsSpec.pre6 enc Try.prog Try.f6 Rows.cplxTurnsRow.domain false) (Rows.cplxTurnsSpec.post enc Try.prog Try.f6 false true false false) := by
  refine returnsInHanded_of_change (C := Try.checked) own started (by kernel_rfl) Try.func6
    (ChangeSpec.witness6 (enc := enc) (C := Try.checked) false ⟨#[], #[.int .i32 0, .int .i32 0], []⟩ 8 (by kernel_rfl) (by kernel_rfl) (by kernel_rfl) (by kernel_rfl)) ?_
  intro W base args ds gs before hval0 hW hcnd _
  have hval : ∀ (j : Nat) t v, Try.f6.params[j]? = some t → args[j]? = some v → Value.okWide Try.prog W .any base t v := hval0
  have hW' := hW
  obtain ⟨p, q, hA0, hV, rfl, hfz, hnd⟩ := hW
  have hA : DataW.TrodAll enc Try.prog W 0 (fun _ => true) true Try.f6.params.toList args.toList ds p := hA0
  rw [Try.params6] at hA hval
  obtain ⟨v0, vs0, d0, ds0, p0, q0, hargs, rfl, rfl, h0, r0⟩ := trodAll_cons hA
  obtain ⟨v1, vs1, d1, ds1, p1, q1, rfl, rfl, rfl, h1, r1⟩ := trodAll_cons r0
  obtain ⟨rfl, rfl, rfl⟩ := trodAll_nil r1
  obtain rfl : args = #[v0, v1] := by cases args; simp_all
  obtain ⟨rfl, rfl⟩ := trodVars_none hV
  obtain ⟨a0, rfl, rfl, rfl, w0⟩ := open_int Try.underlying21 (hval 0 21 v0 rfl rfl) h0
  obtain ⟨a1, rfl, rfl, rfl, w1⟩ := open_int Try.underlying21 (hval 1 21 v1 rfl rfl) h1
  clear hA0 hval0
  simp only [List.append_nil] at hW'
  refine (walk a0 a1 w0 w1 W).mono fun e W' ⟨he, hg⟩ => ?_
  subst he
  exact ⟨_, rfl, post_of_same (pa := []) (pv := []) hW' (fun _ _ _ => (trodAll_cons_mk (shut_bool Try.underlying4 _) trodAll_mk0)) (fun sp _ => (trodAll_cons_mk (shut_int Try.underlying21 w0) (trodAll_cons_mk (shut_int Try.underlying21 w1) trodAll_mk0))) (fun _ _ => rfl) rfl
    (hg.frame _) hg.2.1 (ok_one (by kernel_rfl) rfl (okWide_bool_mk Try.underlying4 _))⟩

theorem over : Rows.cplxTurnsRow.holds Try.pinned (OpenSpec.ofChange Rows.cplxTurnsSpec) :=
  OpenClaim.holds_of_wide 6 Try.f6 rfl rfl rfl rfl rfl rfl rfl ⟨rfl, rfl, rfl, rfl, rfl⟩ rfl rfl rfl rfl rfl (by kernel_rfl) Try.func6 (by kernel_rfl)
    (of_decide_eq_true (by kernel_rfl)) (by unfold Func.isWrapper; first | (rw [if_pos (by decide +kernel)]; kernel_rfl) | (rw [if_neg (by decide +kernel)]; exact ⟨rfl, rfl⟩))
    (fun os started H enc _ => lifted os started H enc)

theorem proved : Rows.CplxTurnsSaid :=
  over
#print axioms proved
end Go.Proofs.Ytlehddfefinadaa.cplxTurns
