/- CplxWhole answers true at every six integers of 16 bits: with small whole parts products spread over sums, a number times its conjugate is its norm, and what is added can be taken away. -/
import Derived.Test.YtlehddfefinadaaRows
import Derived.Test.YtlehddfefinadaaWhole
import Derived.WalkKit
import Derived.ProofKit
import Derived.OpenShut
import Derived.ShutString
namespace Go.Proofs.Ytlehddfefinadaa.cplxWhole
open Go.ChangeShapes Go.WideShapes Go.ChangeAt Go.RowKit
open Go.ChangeMaps (open_string shut_string)
set_option linter.unusedVariables false

theorem own : ownKnob Try.prog.godebug = none := by kernel_rfl

/-- A bound by a power of two. -/
def upto (k : Nat) (n : Int) : Prop := n.natAbs ≤ 2 ^ k
theorem upto_small {k : Nat} {n : Int} (h : upto k n) (hk : k ≤ 52) : small n := by
  unfold upto at h
  unfold small
  have : 2 ^ k ≤ 2 ^ 52 := Nat.pow_le_pow_right (by omega) hk
  omega
theorem upto_add {k : Nat} {n m : Int} (h : upto k n) (h' : upto k m) : upto (k + 1) (n + m) := by
  unfold upto at *
  rw [Nat.pow_succ]
  omega
theorem upto_sub {k : Nat} {n m : Int} (h : upto k n) (h' : upto k m) : upto (k + 1) (n - m) := by
  unfold upto at *
  rw [Nat.pow_succ]
  omega
theorem upto_mul {k j : Nat} {n m : Int} (h : upto k n) (h' : upto j m) : upto (k + j) (n * m) := by
  unfold upto at *
  rw [Int.natAbs_mul, Nat.pow_add]
  exact Nat.mul_le_mul h h'
theorem upto_mono {k j : Nat} {n : Int} (h : upto k n) (hk : k ≤ j) : upto j n := by
  unfold upto at *
  exact Nat.le_trans h (Nat.pow_le_pow_right (by omega) hk)
theorem upto_neg {k : Nat} {n : Int} (h : upto k n) : upto k (-n) := by
  unfold upto at *
  omega
theorem prod_upto {a b c d re im : Nat} {n m p q : Int} {k j : Nat} (ha : Rep a n) (hb : Rep b m) (hc : Rep c p) (hd : Rep d q) (hn : upto k n) (hm : upto k m) (hp : upto j p) (hq : upto j q) (hk : k + j + 1 ≤ 52) (h : Prod a b c d re im) :
    Rep re (n * p - m * q) ∧ Rep im (n * q + m * p) ∧ upto (k + j + 1) (n * p - m * q) ∧ upto (k + j + 1) (n * q + m * p) := by
  have h1 := upto_mul hn hp
  have h2 := upto_mul hm hq
  have h3 := upto_mul hn hq
  have h4 := upto_mul hm hp
  have h5 := upto_sub h1 h2
  have h6 := upto_add h3 h4
  obtain ⟨x, y⟩ := prod_rep ha hb hc hd (upto_small hn (by omega)) (upto_small hm (by omega)) (upto_small hp (by omega)) (upto_small hq (by omega)) (upto_small h1 (by omega)) (upto_small h2 (by omega)) (upto_small h3 (by omega)) (upto_small h4 (by omega)) (upto_small h5 hk) (upto_small h6 hk) h
  exact ⟨x, y, h5, h6⟩
theorem wrap_sq {a b : Int} (ha : upto 15 a) (hb : upto 15 b) : wrap64 (wrap64 (a * a) + wrap64 (b * b)) = a * a + b * b := by
  have h1 := upto_mul ha ha
  have h2 := upto_mul hb hb
  unfold upto at h1 h2
  unfold wrap64
  omega

set_option maxHeartbeats 2000000 in
theorem walk (a0 : Int) (a1 : Int) (a2 : Int) (a3 : Int) (a4 : Int) (a5 : Int) (w0 : (Lit.int .i16 a0).wf = true) (w1 : (Lit.int .i16 a1).wf = true) (w2 : (Lit.int .i16 a2).wf = true) (w3 : (Lit.int .i16 a3).wf = true) (w4 : (Lit.int .i16 a4).wf = true) (w5 : (Lit.int .i16 a5).wf = true) (w : World) :
    Calls Try.prog 4 #[.int .i16 a0, .int .i16 a1, .int .i16 a2, .int .i16 a3, .int .i16 a4, .int .i16 a5] w fun e w' => e = .returned (.bool true) ∧ Grown w w' := by
  obtain ⟨b01, b02⟩ := bounds_i16 w0
  obtain ⟨b11, b12⟩ := bounds_i16 w1
  obtain ⟨b21, b22⟩ := bounds_i16 w2
  obtain ⟨b31, b32⟩ := bounds_i16 w3
  obtain ⟨b41, b42⟩ := bounds_i16 w4
  obtain ⟨b51, b52⟩ := bounds_i16 w5
  have u0 : upto 15 a0 := by unfold upto; omega
  have u1 : upto 15 a1 := by unfold upto; omega
  have u2 : upto 15 a2 := by unfold upto; omega
  have u3 : upto 15 a3 := by unfold upto; omega
  have u4 : upto 15 a4 := by unfold upto; omega
  have u5 : upto 15 a5 := by unfold upto; omega
  have r0 := rep_int (upto_small u0 (by omega))
  have r1 := rep_int (upto_small u1 (by omega))
  have r2 := rep_int (upto_small u2 (by omega))
  have r3 := rep_int (upto_small u3 (by omega))
  have r4 := rep_int (upto_small u4 (by omega))
  have r5 := rep_int (upto_small u5 (by omega))
  go_enter Try.func4, Try.ntmps4
  go_wp2_with fail
  refine (known_any _).mono ?_
  rintro e v1 ⟨rfl, g1⟩
  go_wp2_with fail
  refine (add_any _ _ _ _ _).mono ?_
  rintro e v2 ⟨sr, si, rfl, p1, g2⟩
  have q1 := out_add r2 r4 (upto_small u2 (by omega)) (upto_small u4 (by omega)) (upto_small (upto_add u2 u4) (by omega)) p1.1
  have q2 := out_add r3 r5 (upto_small u3 (by omega)) (upto_small u5 (by omega)) (upto_small (upto_add u3 u5) (by omega)) p1.2
  clear p1
  go_wp2_with fail
  refine (mul_any _ _ _ _ _).mono ?_
  rintro e v3 ⟨lr, li, rfl, p2, g3⟩
  obtain ⟨q3, q4, k3, k4⟩ := prod_upto r0 r1 q1 q2 u0 u1 (upto_add u2 u4) (upto_add u3 u5) (by omega) p2
  clear p2
  go_wp2_with fail
  refine (mul_any _ _ _ _ _).mono ?_
  rintro e v4 ⟨xr, xi, rfl, p3, g4⟩
  obtain ⟨q5, q6, k5, k6⟩ := prod_upto r0 r1 r2 r3 u0 u1 u2 u3 (by omega) p3
  clear p3
  go_wp2_with fail
  refine (mul_any _ _ _ _ _).mono ?_
  rintro e v5 ⟨yr, yi, rfl, p4, g5⟩
  obtain ⟨q7, q8, k7, k8⟩ := prod_upto r0 r1 r4 r5 u0 u1 u4 u5 (by omega) p4
  clear p4
  go_wp2_with fail
  refine (add_any _ _ _ _ _).mono ?_
  rintro e v6 ⟨rr, ri, rfl, p5, g6⟩
  have q9 := out_add q5 q7 (upto_small k5 (by omega)) (upto_small k7 (by omega)) (upto_small (upto_add k5 k7) (by omega)) p5.1
  have q10 := out_add q6 q8 (upto_small k6 (by omega)) (upto_small k8 (by omega)) (upto_small (upto_add k6 k8) (by omega)) p5.2
  clear p5
  have h1 : FloatKind.f64.format.order lr rr = some .eq := rep_order q3 q9 (upto_small k3 (by omega)) (upto_small (upto_add k5 k7) (by omega)) (by rw [Int.mul_add, Int.mul_add]; omega)
  have h2 : FloatKind.f64.format.order li ri = some .eq := rep_order q4 q10 (upto_small k4 (by omega)) (upto_small (upto_add k6 k8) (by omega)) (by rw [Int.mul_add, Int.mul_add]; omega)
  go_wp2_with fail
  refine (conj_any _ _ _).mono ?_
  rintro e v7 ⟨rfl, rfl⟩
  have rn := rep_neg r1 (upto_small u1 (by omega))
  go_wp2_with fail
  refine (mul_any _ _ _ _ _).mono ?_
  rintro e v7 ⟨nr, ni, rfl, p6, g7⟩
  obtain ⟨q11, q12, k11, k12⟩ := prod_upto r0 r1 r0 rn u0 u1 u0 (upto_neg u1) (by omega) p6
  clear p6
  have e12 : a0 * -a1 + a1 * a0 = 0 := by rw [Int.mul_neg, Int.mul_comm a1 a0]; omega
  have e11 : a0 * a0 - a1 * -a1 = a0 * a0 + a1 * a1 := by rw [Int.mul_neg]; omega
  rw [e12] at q12 k12
  rw [e11] at q11 k11
  go_wp2_with fail
  refine (mul_any _ _ _ _ _).mono ?_
  rintro e v8 ⟨cr, ci, rfl, p7, g8⟩
  obtain ⟨q13, q14, k13, k14⟩ := prod_upto r0 r1 r2 r3 u0 u1 u2 u3 (by omega) p7
  clear p7
  go_wp2_with fail
  refine (mul_any _ _ _ _ _).mono ?_
  rintro e v9 ⟨dr, di, rfl, p8, g9⟩
  obtain ⟨q15, q16, k15, k16⟩ := prod_upto r2 r3 r0 r1 u2 u3 u0 u1 (by omega) p8
  clear p8
  have h3 : FloatKind.f64.format.order cr dr = some .eq := rep_order q13 q15 (upto_small k13 (by omega)) (upto_small k15 (by omega)) (by rw [Int.mul_comm a2 a0, Int.mul_comm a3 a1])
  have h4 : FloatKind.f64.format.order ci di = some .eq := rep_order q14 q16 (upto_small k14 (by omega)) (upto_small k16 (by omega)) (by rw [Int.mul_comm a2 a1, Int.mul_comm a3 a0]; omega)
  go_wp2_with fail
  refine (norm_any _ _ _).mono ?_
  rintro e v10 ⟨n1, rfl, m1, g10⟩
  have m1' := norm_rep r0 r1 (upto_small u0 (by omega)) (upto_small u1 (by omega)) (upto_small (upto_mul u0 u0) (by omega)) (upto_small (upto_mul u1 u1) (by omega)) (upto_small (upto_add (upto_mul u0 u0) (upto_mul u1 u1)) (by omega)) m1
  clear m1
  have h5 : FloatKind.f64.format.order nr n1 = some .eq := rep_order q11 m1' (upto_small k11 (by omega)) (upto_small k11 (by omega)) rfl
  have h6 : FloatKind.f64.format.order ni 0 = some .eq := rep_order q12 rep_zero (upto_small k12 (by omega)) (upto_small k12 (by omega)) rfl
  go_wp2_with fail
  refine (norm_any _ _ _).mono ?_
  rintro e v11 ⟨n2, rfl, m2, g11⟩
  have m2' := norm_rep r0 r1 (upto_small u0 (by omega)) (upto_small u1 (by omega)) (upto_small (upto_mul u0 u0) (by omega)) (upto_small (upto_mul u1 u1) (by omega)) (upto_small (upto_add (upto_mul u0 u0) (upto_mul u1 u1)) (by omega)) m2
  clear m2
  have hw := wrap_sq u0 u1
  have h7 : FloatKind.f64.format.order n2 (floatOfInt .f64 (a0 * a0 + a1 * a1)) = some .eq := rep_order m2' (rep_int (upto_small k11 (by omega))) (upto_small k11 (by omega)) (upto_small k11 (by omega)) rfl
  go_wp2_with fail
  refine (add_any _ _ _ _ _).mono ?_
  rintro e v12 ⟨tr, ti, rfl, p9, g12⟩
  have q17 := out_add r0 r2 (upto_small u0 (by omega)) (upto_small u2 (by omega)) (upto_small (upto_add u0 u2) (by omega)) p9.1
  have q18 := out_add r1 r3 (upto_small u1 (by omega)) (upto_small u3 (by omega)) (upto_small (upto_add u1 u3) (by omega)) p9.2
  clear p9
  have e0 : a0 + a2 - a2 = a0 := by omega
  have e1 : a1 + a3 - a3 = a1 := by omega
  go_wp2_with fail
  refine (sub_any _ _ _ _ _).mono ?_
  rintro e v13 ⟨or', oi, rfl, p10, g13⟩
  have q19 := out_sub q17 r2 (upto_small (upto_add u0 u2) (by omega)) (upto_small u2 (by omega)) (by rw [e0]; exact upto_small u0 (by omega)) p10.1
  have q20 := out_sub q18 r3 (upto_small (upto_add u1 u3) (by omega)) (upto_small u3 (by omega)) (by rw [e1]; exact upto_small u1 (by omega)) p10.2
  rw [e0] at q19
  rw [e1] at q20
  clear p10
  have h8 : FloatKind.f64.format.order or' (floatOfInt .f64 a0) = some .eq := rep_order q19 r0 (upto_small u0 (by omega)) (upto_small u0 (by omega)) rfl
  have h9 : FloatKind.f64.format.order oi (floatOfInt .f64 a1) = some .eq := rep_order q20 r1 (upto_small u1 (by omega)) (upto_small u1 (by omega)) rfl
  go_wp2_with fail
  go_ret
  exact ⟨rfl, grown_trans g1 (grown_trans g2 (grown_trans g3 (grown_trans g4 (grown_trans g5 (grown_trans g6 (grown_trans g7 (grown_trans g8 (grown_trans g9 (grown_trans g10 (grown_trans g11 (grown_trans g12 g13)))))))))))⟩

set_option maxRecDepth 100000 in
theorem lifted (os : Os) (started : os.Started) (H : Type) (enc : TypeId × Value → H) :
    ReturnsInHanded {} Try.checked os 4 .any (Rows.cplxWholeSpec.pre6 enc Try.prog Try.f4 Rows.cplxWholeRow.domain false) (Rows.cplxWholeSpec.post enc Try.prog Try.f4 false true false false) := by
  refine returnsInHanded_of_change (C := Try.checked) own started (by kernel_rfl) Try.func4
    (ChangeSpec.witness6 (enc := enc) (C := Try.checked) false ⟨#[], #[.int .i16 0, .int .i16 0, .int .i16 0, .int .i16 0, .int .i16 0, .int .i16 0], []⟩ 8 (by kernel_rfl) (by kernel_rfl) (by kernel_rfl) (by kernel_rfl)) ?_
  intro W base args ds gs before hval0 hW hcnd _
  have hval : ∀ (j : Nat) t v, Try.f4.params[j]? = some t → args[j]? = some v → Value.okWide Try.prog W .any base t v := hval0
  have hW' := hW
  obtain ⟨p, q, hA0, hV, rfl, hfz, hnd⟩ := hW
  have hA : DataW.TrodAll enc Try.prog W 0 (fun _ => true) true Try.f4.params.toList args.toList ds p := hA0
  rw [Try.params4] at hA hval
  obtain ⟨v0, vs0, d0, ds0, p0, q0, hargs, rfl, rfl, h0, r0⟩ := trodAll_cons hA
  obtain ⟨v1, vs1, d1, ds1, p1, q1, rfl, rfl, rfl, h1, r1⟩ := trodAll_cons r0
  obtain ⟨v2, vs2, d2, ds2, p2, q2, rfl, rfl, rfl, h2, r2⟩ := trodAll_cons r1
  obtain ⟨v3, vs3, d3, ds3, p3, q3, rfl, rfl, rfl, h3, r3⟩ := trodAll_cons r2
  obtain ⟨v4, vs4, d4, ds4, p4, q4, rfl, rfl, rfl, h4, r4⟩ := trodAll_cons r3
  obtain ⟨v5, vs5, d5, ds5, p5, q5, rfl, rfl, rfl, h5, r5⟩ := trodAll_cons r4
  obtain ⟨rfl, rfl, rfl⟩ := trodAll_nil r5
  obtain rfl : args = #[v0, v1, v2, v3, v4, v5] := by cases args; simp_all
  obtain ⟨rfl, rfl⟩ := trodVars_none hV
  obtain ⟨a0, rfl, rfl, rfl, w0⟩ := open_int Try.underlying39 (hval 0 39 v0 rfl rfl) h0
  obtain ⟨a1, rfl, rfl, rfl, w1⟩ := open_int Try.underlying39 (hval 1 39 v1 rfl rfl) h1
  obtain ⟨a2, rfl, rfl, rfl, w2⟩ := open_int Try.underlying39 (hval 2 39 v2 rfl rfl) h2
  obtain ⟨a3, rfl, rfl, rfl, w3⟩ := open_int Try.underlying39 (hval 3 39 v3 rfl rfl) h3
  obtain ⟨a4, rfl, rfl, rfl, w4⟩ := open_int Try.underlying39 (hval 4 39 v4 rfl rfl) h4
  obtain ⟨a5, rfl, rfl, rfl, w5⟩ := open_int Try.underlying39 (hval 5 39 v5 rfl rfl) h5
  clear hA0 hval0
  simp only [List.append_nil] at hW'
  refine (walk a0 a1 a2 a3 a4 a5 w0 w1 w2 w3 w4 w5 W).mono fun e W' ⟨he, hg⟩ => ?_
  subst he
  exact ⟨_, rfl, post_of_same (pa := []) (pv := []) hW' (fun _ _ _ => (trodAll_cons_mk (shut_bool Try.underlying4 _) trodAll_mk0)) (fun sp _ => (trodAll_cons_mk (shut_int Try.underlying39 w0) (trodAll_cons_mk (shut_int Try.underlying39 w1) (trodAll_cons_mk (shut_int Try.underlying39 w2) (trodAll_cons_mk (shut_int Try.underlying39 w3) (trodAll_cons_mk (shut_int Try.underlying39 w4) (trodAll_cons_mk (shut_int Try.underlying39 w5) trodAll_mk0))))))) (fun _ _ => rfl) rfl
    (hg.frame _) hg.2.1 (ok_one (by kernel_rfl) rfl (okWide_bool_mk Try.underlying4 _))⟩

theorem over : Rows.cplxWholeRow.holds Try.pinned (OpenSpec.ofChange Rows.cplxWholeSpec) :=
  OpenClaim.holds_of_wide 4 Try.f4 rfl rfl rfl rfl rfl rfl rfl ⟨rfl, rfl, rfl, rfl, rfl⟩ rfl rfl rfl rfl rfl (by kernel_rfl) Try.func4 (by kernel_rfl)
    (of_decide_eq_true (by kernel_rfl)) (by unfold Func.isWrapper; first | (rw [if_pos (by decide +kernel)]; kernel_rfl) | (rw [if_neg (by decide +kernel)]; exact ⟨rfl, rfl⟩))
    (fun os started H enc _ => lifted os started H enc)

theorem proved : Rows.CplxWholeSaid :=
  over
#print axioms proved
end Go.Proofs.Ytlehddfefinadaa.cplxWhole
