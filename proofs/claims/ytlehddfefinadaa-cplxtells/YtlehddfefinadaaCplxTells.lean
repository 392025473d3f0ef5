/- CplxTells answers true at every four words of bits and every text: package cplx adds, subtracts, multiplies, conjugates, compares, prints and reads complex numbers, and tells their norms, as the document says. -/
import Derived.Test.YtlehddfefinadaaRows
import Derived.Test.YtlehddfefinadaaRefParse
import Derived.WalkKit
import Derived.ProofKit
import Derived.OpenShut
import Derived.ShutString
namespace Go.Proofs.Ytlehddfefinadaa.cplxTells
open Go.ChangeShapes Go.WideShapes Go.ChangeAt Go.RowKit
open Go.ChangeMaps (open_string shut_string)
set_option linter.unusedVariables false

theorem own : ownKnob Try.prog.godebug = none := by kernel_rfl

theorem alk_of {a b : Nat} (h : Alk a b) : alk a b = true := by
  unfold alk
  rcases h with rfl | ⟨h1, h2⟩
  · simp
  · rw [(order_neq_nan a).2 h1, (order_neq_nan b).2 h2]
    simp
theorem alk_sums {a b c d re im re' im' : Nat} (h : Sums a b c d re im) (h' : Sums a b c d re' im') : (alk re re' && alk im im') = true := by
  rw [alk_of (out_alk h.1 h'.1), alk_of (out_alk h.2 h'.2)]
  rfl
theorem alk_diffs {a b c d re im re' im' : Nat} (h : Diffs a b c d re im) (h' : Diffs a b c d re' im') : (alk re re' && alk im im') = true := by
  rw [alk_of (out_alk h.1 h'.1), alk_of (out_alk h.2 h'.2)]
  rfl
theorem alk_prods {a b c d re im re' im' : Nat} (h : Prod a b c d re im) (h' : Prod a b c d re' im') : (alk re re' && alk im im') = true := by
  obtain ⟨t1, t2, t3, t4, o1, o2, o3, o4, o5, o6⟩ := h
  obtain ⟨s1, s2, s3, s4, p1, p2, p3, p4, p5, p6⟩ := h'
  rw [alk_of (sub_alk (out_alk o1 p1) (out_alk o2 p2) o3 p3), alk_of (add_alk (out_alk o4 p4) (out_alk o5 p5) o6 p6)]
  rfl
theorem alk_norms {a b n m : Nat} (h : Nrm a b n) (h' : Nrm a b m) : FloatKind.f64.format.order n m = some .eq ∨ (FloatKind.f64.format.order n m = none ∧ FloatKind.f64.format.order n n = none ∧ FloatKind.f64.format.order m m = none) := by
  obtain ⟨t1, t2, o1, o2, o3⟩ := h
  obtain ⟨s1, s2, p1, p2, p3⟩ := h'
  have hk := add_alk (out_alk o1 p1) (out_alk o2 p2) o3 p3
  by_cases hn : nan n
  · rcases hk with rfl | ⟨_, hm⟩
    · exact Or.inr ⟨order_self_nan hn _, order_self_nan hn _, order_self_nan hn _⟩
    · exact Or.inr ⟨order_self_nan hn _, order_self_nan hn _, order_self_nan hm _⟩
  · exact Or.inl (order_alk hk hn)
theorem undef_not {b : Bool} (h : some undef = some (Value.bool b)) : False := by
  have h2 := Option.some.inj h
  unfold undef at h2
  cases h2

set_option maxHeartbeats 4000000 in
theorem walk (a0 : Int) (a1 : Int) (a2 : Int) (a3 : Int) (a4 : ByteArray) (w0 : (Lit.int .u64 a0).wf = true) (w1 : (Lit.int .u64 a1).wf = true) (w2 : (Lit.int .u64 a2).wf = true) (w3 : (Lit.int .u64 a3).wf = true) (w4 : a4.size ≤ maxLen) (w : World) :
    Calls Try.prog 3 #[.int .u64 a0, .int .u64 a1, .int .u64 a2, .int .u64 a3, .string a4] w fun e w' => e = .returned (.bool true) ∧ Grown w w' := by
  obtain ⟨hb0, hb1⟩ := bounds_u64 w0
  obtain ⟨hb2, hb3⟩ := bounds_u64 w1
  obtain ⟨hb4, hb5⟩ := bounds_u64 w2
  obtain ⟨hb6, hb7⟩ := bounds_u64 w3
  obtain ⟨a, rfl⟩ := Int.eq_ofNat_of_zero_le hb0
  obtain ⟨b, rfl⟩ := Int.eq_ofNat_of_zero_le hb2
  obtain ⟨c, rfl⟩ := Int.eq_ofNat_of_zero_le hb4
  obtain ⟨d, rfl⟩ := Int.eq_ofNat_of_zero_le hb6
  have ha : a < 2 ^ 64 := by omega
  have hb : b < 2 ^ 64 := by omega
  have hc : c < 2 ^ 64 := by omega
  have hd : d < 2 ^ 64 := by omega
  clear hb0 hb1 hb2 hb3 hb4 hb5 hb6 hb7 w0 w1 w2 w3
  by_cases hlen : a4.size ≤ 100
  · by_cases hnn : nn a b = true
    · go_enter Try.func3, Try.ntmps3
      go_wp2_with fail
      refine (known_any _).mono ?_
      rintro e v1 ⟨rfl, g1⟩
      go_wp2_with fail
      refine (of_any _ _ _).mono ?_
      rintro e v2 ⟨rfl, rfl⟩
      go_wp2_with fail
      refine (of_any _ _ _).mono ?_
      rintro e v2 ⟨rfl, rfl⟩
      go_wp2_with fail
      refine (norm_any _ _ _).mono ?_
      rintro e v3 ⟨n, rfl, m1, g3⟩
      go_wp2_with fail
      refine (refnorm_any _ _ _).mono ?_
      rintro e v4 ⟨m, rfl, m2, g4⟩
      rcases alk_norms m1 m2 with q1 | ⟨q1, q2, q3⟩
      · clear m1 m2
        go_wp2_with fail
        refine (parse_any _ _).mono ?_
        rintro e v5 ⟨rfl, rfl⟩
        go_wp2_with fail
        refine (refparse_any _ _).mono ?_
        rintro e v5 ⟨rfl, g5⟩
        go_wp2_with fail
        refine (add_any _ _ _ _ _).mono ?_
        rintro e v6 ⟨ar, ai, rfl, p1, g6⟩
        go_wp2_with fail
        refine (refadd_any _ _ _ _ _).mono ?_
        rintro e v7 ⟨br, bi, rfl, p2, g7⟩
        have k1 := alk_sums p1 p2
        clear p1 p2
        go_wp2_with fail
        refine (alike_any _ _ _ _ _).mono ?_
        rintro e v8 ⟨rfl, rfl⟩
        go_wp2_with fail
        refine (sub_any _ _ _ _ _).mono ?_
        rintro e v8 ⟨cr, ci, rfl, p3, g8⟩
        go_wp2_with fail
        refine (refsub_any _ _ _ _ _).mono ?_
        rintro e v9 ⟨dr, di, rfl, p4, g9⟩
        have k2 := alk_diffs p3 p4
        clear p3 p4
        go_wp2_with fail
        refine (alike_any _ _ _ _ _).mono ?_
        rintro e v10 ⟨rfl, rfl⟩
        go_wp2_with fail
        refine (mul_any _ _ _ _ _).mono ?_
        rintro e v10 ⟨er, ei, rfl, p5, g10⟩
        go_wp2_with fail
        refine (refmul_any _ _ _ _ _).mono ?_
        rintro e v11 ⟨fr, fi, rfl, p6, g11⟩
        have k3 := alk_prods p5 p6
        clear p5 p6
        go_wp2_with fail
        refine (alike_any _ _ _ _ _).mono ?_
        rintro e v12 ⟨rfl, rfl⟩
        go_wp2_with fail
        refine (nan_any _ _ _).mono ?_
        rintro e v12 ⟨rfl, rfl⟩
        go_wp2_with fail
        exact (undef_not (by assumption)).elim
        exact (undef_not (by assumption)).elim
        refine (same_any _ _ _ _ ha hb hc hd _).mono ?_
        rintro e v12 ⟨rfl, rfl⟩
        go_wp2_with fail
        refine (alike_any _ _ _ _ _).mono ?_
        rintro e v12 ⟨rfl, rfl⟩
        go_wp2_with fail
        refine (print_any _ _ ha hb _).mono ?_
        rintro e v12 ⟨rfl, g12⟩
        go_wp2_with fail
        refine (refprint_any _ _ ha hb _).mono ?_
        rintro e v13 ⟨rfl, rfl⟩
        go_wp2_with fail
        refine (refsame_any _ _ _ _ _).mono ?_
        rintro e v13 ⟨rfl, rfl⟩
        go_wp2_with fail
        go_ret
        exact ⟨rfl, grown_trans g1 (grown_trans g3 (grown_trans g4 (grown_trans g5 (grown_trans g6 (grown_trans g7 (grown_trans g8 (grown_trans g9 (grown_trans g10 (grown_trans g11 g12)))))))))⟩
      · clear m1 m2
        go_wp2_with fail
        refine (parse_any _ _).mono ?_
        rintro e v5 ⟨rfl, rfl⟩
        go_wp2_with fail
        refine (refparse_any _ _).mono ?_
        rintro e v5 ⟨rfl, g5⟩
        go_wp2_with fail
        refine (add_any _ _ _ _ _).mono ?_
        rintro e v6 ⟨ar, ai, rfl, p1, g6⟩
        go_wp2_with fail
        refine (refadd_any _ _ _ _ _).mono ?_
        rintro e v7 ⟨br, bi, rfl, p2, g7⟩
        have k1 := alk_sums p1 p2
        clear p1 p2
        go_wp2_with fail
        refine (alike_any _ _ _ _ _).mono ?_
        rintro e v8 ⟨rfl, rfl⟩
        go_wp2_with fail
        refine (sub_any _ _ _ _ _).mono ?_
        rintro e v8 ⟨cr, ci, rfl, p3, g8⟩
        go_wp2_with fail
        refine (refsub_any _ _ _ _ _).mono ?_
        rintro e v9 ⟨dr, di, rfl, p4, g9⟩
        have k2 := alk_diffs p3 p4
        clear p3 p4
        go_wp2_with fail
        refine (alike_any _ _ _ _ _).mono ?_
        rintro e v10 ⟨rfl, rfl⟩
        go_wp2_with fail
        refine (mul_any _ _ _ _ _).mono ?_
        rintro e v10 ⟨er, ei, rfl, p5, g10⟩
        go_wp2_with fail
        refine (refmul_any _ _ _ _ _).mono ?_
        rintro e v11 ⟨fr, fi, rfl, p6, g11⟩
        have k3 := alk_prods p5 p6
        clear p5 p6
        go_wp2_with fail
        refine (alike_any _ _ _ _ _).mono ?_
        rintro e v12 ⟨rfl, rfl⟩
        go_wp2_with fail
        refine (nan_any _ _ _).mono ?_
        rintro e v12 ⟨rfl, rfl⟩
        go_wp2_with fail
        refine (same_any _ _ _ _ ha hb hc hd _).mono ?_
        rintro e v12 ⟨rfl, rfl⟩
        go_wp2_with fail
        refine (alike_any _ _ _ _ _).mono ?_
        rintro e v12 ⟨rfl, rfl⟩
        go_wp2_with fail
        refine (print_any _ _ ha hb _).mono ?_
        rintro e v12 ⟨rfl, g12⟩
        go_wp2_with fail
        refine (refprint_any _ _ ha hb _).mono ?_
        rintro e v13 ⟨rfl, rfl⟩
        go_wp2_with fail
        refine (refsame_any _ _ _ _ _).mono ?_
        rintro e v13 ⟨rfl, rfl⟩
        go_wp2_with fail
        go_ret
        exact ⟨rfl, grown_trans g1 (grown_trans g3 (grown_trans g4 (grown_trans g5 (grown_trans g6 (grown_trans g7 (grown_trans g8 (grown_trans g9 (grown_trans g10 (grown_trans g11 g12)))))))))⟩
    · have hnn' : nn a b = false := by simpa using hnn
      clear hnn
      go_enter Try.func3, Try.ntmps3
      go_wp2_with fail
      refine (known_any _).mono ?_
      rintro e v1 ⟨rfl, g1⟩
      go_wp2_with fail
      refine (of_any _ _ _).mono ?_
      rintro e v2 ⟨rfl, rfl⟩
      go_wp2_with fail
      refine (of_any _ _ _).mono ?_
      rintro e v2 ⟨rfl, rfl⟩
      go_wp2_with fail
      refine (norm_any _ _ _).mono ?_
      rintro e v3 ⟨n, rfl, m1, g3⟩
      go_wp2_with fail
      refine (refnorm_any _ _ _).mono ?_
      rintro e v4 ⟨m, rfl, m2, g4⟩
      rcases alk_norms m1 m2 with q1 | ⟨q1, q2, q3⟩
      · clear m1 m2
        go_wp2_with fail
        refine (parse_any _ _).mono ?_
        rintro e v5 ⟨rfl, rfl⟩
        go_wp2_with fail
        refine (refparse_any _ _).mono ?_
        rintro e v5 ⟨rfl, g5⟩
        go_wp2_with fail
        refine (add_any _ _ _ _ _).mono ?_
        rintro e v6 ⟨ar, ai, rfl, p1, g6⟩
        go_wp2_with fail
        refine (refadd_any _ _ _ _ _).mono ?_
        rintro e v7 ⟨br, bi, rfl, p2, g7⟩
        have k1 := alk_sums p1 p2
        clear p1 p2
        go_wp2_with fail
        refine (alike_any _ _ _ _ _).mono ?_
        rintro e v8 ⟨rfl, rfl⟩
        go_wp2_with fail
        refine (sub_any _ _ _ _ _).mono ?_
        rintro e v8 ⟨cr, ci, rfl, p3, g8⟩
        go_wp2_with fail
        refine (refsub_any _ _ _ _ _).mono ?_
        rintro e v9 ⟨dr, di, rfl, p4, g9⟩
        have k2 := alk_diffs p3 p4
        clear p3 p4
        go_wp2_with fail
        refine (alike_any _ _ _ _ _).mono ?_
        rintro e v10 ⟨rfl, rfl⟩
        go_wp2_with fail
        refine (mul_any _ _ _ _ _).mono ?_
        rintro e v10 ⟨er, ei, rfl, p5, g10⟩
        go_wp2_with fail
        refine (refmul_any _ _ _ _ _).mono ?_
        rintro e v11 ⟨fr, fi, rfl, p6, g11⟩
        have k3 := alk_prods p5 p6
        clear p5 p6
        go_wp2_with fail
        refine (alike_any _ _ _ _ _).mono ?_
        rintro e v12 ⟨rfl, rfl⟩
        go_wp2_with fail
        refine (nan_any _ _ _).mono ?_
        rintro e v12 ⟨rfl, rfl⟩
        go_wp2_with fail
        refine (conj_any _ _ _).mono ?_
        rintro e v12 ⟨rfl, rfl⟩
        go_wp2_with fail
        refine (refconj_any _ _ hb _).mono ?_
        rintro e v12 ⟨rfl, rfl⟩
        go_wp2_with fail
        refine (refsame_any _ _ _ _ _).mono ?_
        rintro e v12 ⟨rfl, rfl⟩
        go_wp2_with fail
        exact (undef_not (by assumption)).elim
        exact (undef_not (by assumption)).elim
        refine (same_any _ _ _ _ ha hb hc hd _).mono ?_
        rintro e v12 ⟨rfl, rfl⟩
        go_wp2_with fail
        refine (alike_any _ _ _ _ _).mono ?_
        rintro e v12 ⟨rfl, rfl⟩
        go_wp2_with fail
        refine (print_any _ _ ha hb _).mono ?_
        rintro e v12 ⟨rfl, g12⟩
        go_wp2_with fail
        refine (refprint_any _ _ ha hb _).mono ?_
        rintro e v13 ⟨rfl, rfl⟩
        go_wp2_with fail
        refine (refsame_any _ _ _ _ _).mono ?_
        rintro e v13 ⟨rfl, rfl⟩
        go_wp2_with fail
        go_ret
        exact ⟨rfl, grown_trans g1 (grown_trans g3 (grown_trans g4 (grown_trans g5 (grown_trans g6 (grown_trans g7 (grown_trans g8 (grown_trans g9 (grown_trans g10 (grown_trans g11 g12)))))))))⟩
      · clear m1 m2
        go_wp2_with fail
        refine (parse_any _ _).mono ?_
        rintro e v5 ⟨rfl, rfl⟩
        go_wp2_with fail
        refine (refparse_any _ _).mono ?_
        rintro e v5 ⟨rfl, g5⟩
        go_wp2_with fail
        refine (add_any _ _ _ _ _).mono ?_
        rintro e v6 ⟨ar, ai, rfl, p1, g6⟩
        go_wp2_with fail
        refine (refadd_any _ _ _ _ _).mono ?_
        rintro e v7 ⟨br, bi, rfl, p2, g7⟩
        have k1 := alk_sums p1 p2
        clear p1 p2
        go_wp2_with fail
        refine (alike_any _ _ _ _ _).mono ?_
        rintro e v8 ⟨rfl, rfl⟩
        go_wp2_with fail
        refine (sub_any _ _ _ _ _).mono ?_
        rintro e v8 ⟨cr, ci, rfl, p3, g8⟩
        go_wp2_with fail
        refine (refsub_any _ _ _ _ _).mono ?_
        rintro e v9 ⟨dr, di, rfl, p4, g9⟩
        have k2 := alk_diffs p3 p4
        clear p3 p4
        go_wp2_with fail
        refine (alike_any _ _ _ _ _).mono ?_
        rintro e v10 ⟨rfl, rfl⟩
        go_wp2_with fail
        refine (mul_any _ _ _ _ _).mono ?_
        rintro e v10 ⟨er, ei, rfl, p5, g10⟩
        go_wp2_with fail
        refine (refmul_any _ _ _ _ _).mono ?_
        rintro e v11 ⟨fr, fi, rfl, p6, g11⟩
        have k3 := alk_prods p5 p6
        clear p5 p6
        go_wp2_with fail
        refine (alike_any _ _ _ _ _).mono ?_
        rintro e v12 ⟨rfl, rfl⟩
        go_wp2_with fail
        refine (nan_any _ _ _).mono ?_
        rintro e v12 ⟨rfl, rfl⟩
        go_wp2_with fail
        refine (conj_any _ _ _).mono ?_
        rintro e v12 ⟨rfl, rfl⟩
        go_wp2_with fail
        refine (refconj_any _ _ hb _).mono ?_
        rintro e v12 ⟨rfl, rfl⟩
        go_wp2_with fail
        refine (refsame_any _ _ _ _ _).mono ?_
        rintro e v12 ⟨rfl, rfl⟩
        go_wp2_with fail
        refine (same_any _ _ _ _ ha hb hc hd _).mono ?_
        rintro e v12 ⟨rfl, rfl⟩
        go_wp2_with fail
        refine (alike_any _ _ _ _ _).mono ?_
        rintro e v12 ⟨rfl, rfl⟩
        go_wp2_with fail
        refine (print_any _ _ ha hb _).mono ?_
        rintro e v12 ⟨rfl, g12⟩
        go_wp2_with fail
        refine (refprint_any _ _ ha hb _).mono ?_
        rintro e v13 ⟨rfl, rfl⟩
        go_wp2_with fail
        refine (refsame_any _ _ _ _ _).mono ?_
        rintro e v13 ⟨rfl, rfl⟩
        go_wp2_with fail
        go_ret
        exact ⟨rfl, grown_trans g1 (grown_trans g3 (grown_trans g4 (grown_trans g5 (grown_trans g6 (grown_trans g7 (grown_trans g8 (grown_trans g9 (grown_trans g10 (grown_trans g11 g12)))))))))⟩
  · have hlen' : 100 < a4.size := by omega
    clear hlen
    go_enter Try.func3, Try.ntmps3
    go_wp2_with fail
    refine (known_any _).mono ?_
    rintro e v1 ⟨rfl, g1⟩
    go_wp2_with fail
    go_ret
    exact ⟨rfl, g1⟩

set_option maxRecDepth 100000 in
theorem lifted (os : Os) (started : os.Started) (H : Type) (enc : TypeId × Value → H) :
    ReturnsInHanded {} Try.checked os 3 .any (Rows.cplxTellsSpec.pre6 enc Try.prog Try.f3 Rows.cplxTellsRow.domain false) (Rows.cplxTellsSpec.post enc Try.prog Try.f3 false true false false) := by
  refine returnsInHanded_of_change (C := Try.checked) own started (by kernel_rfl) Try.func3
    (ChangeSpec.witness6 (enc := enc) (C := Try.checked) false ⟨#[], #[.int .u64 0, .int .u64 0, .int .u64 0, .int .u64 0, .string ByteArray.empty], []⟩ 8 (by kernel_rfl) (by kernel_rfl) (by kernel_rfl) (by kernel_rfl)) ?_
  intro W base args ds gs before hval0 hW hcnd _
  have hval : ∀ (j : Nat) t v, Try.f3.params[j]? = some t → args[j]? = some v → Value.okWide Try.prog W .any base t v := hval0
  have hW' := hW
  obtain ⟨p, q, hA0, hV, rfl, hfz, hnd⟩ := hW
  have hA : DataW.TrodAll enc Try.prog W 0 (fun _ => true) true Try.f3.params.toList args.toList ds p := hA0
  rw [Try.params3] at hA hval
  obtain ⟨v0, vs0, d0, ds0, p0, q0, hargs, rfl, rfl, h0, r0⟩ := trodAll_cons hA
  obtain ⟨v1, vs1, d1, ds1, p1, q1, rfl, rfl, rfl, h1, r1⟩ := trodAll_cons r0
  obtain ⟨v2, vs2, d2, ds2, p2, q2, rfl, rfl, rfl, h2, r2⟩ := trodAll_cons r1
  obtain ⟨v3, vs3, d3, ds3, p3, q3, rfl, rfl, rfl, h3, r3⟩ := trodAll_cons r2
  obtain ⟨v4, vs4, d4, ds4, p4, q4, rfl, rfl, rfl, h4, r4⟩ := trodAll_cons r3
  obtain ⟨rfl, rfl, rfl⟩ := trodAll_nil r4
  obtain rfl : args = #[v0, v1, v2, v3, v4] := by cases args; simp_all
  obtain ⟨rfl, rfl⟩ := trodVars_none hV
  obtain ⟨a0, rfl, rfl, rfl, w0⟩ := open_int Try.underlying22 (hval 0 22 v0 rfl rfl) h0
  obtain ⟨a1, rfl, rfl, rfl, w1⟩ := open_int Try.underlying22 (hval 1 22 v1 rfl rfl) h1
  obtain ⟨a2, rfl, rfl, rfl, w2⟩ := open_int Try.underlying22 (hval 2 22 v2 rfl rfl) h2
  obtain ⟨a3, rfl, rfl, rfl, w3⟩ := open_int Try.underlying22 (hval 3 22 v3 rfl rfl) h3
  obtain ⟨a4, rfl, rfl, rfl, w4⟩ := open_string Try.underlying9 (hval 4 9 v4 rfl rfl) h4
  clear hA0 hval0
  simp only [List.append_nil] at hW'
  refine (walk a0 a1 a2 a3 a4 w0 w1 w2 w3 w4 W).mono fun e W' ⟨he, hg⟩ => ?_
  subst he
  exact ⟨_, rfl, post_of_same (pa := []) (pv := []) hW' (fun _ _ _ => (trodAll_cons_mk (shut_bool Try.underlying4 _) trodAll_mk0)) (fun sp _ => (trodAll_cons_mk (shut_int Try.underlying22 w0) (trodAll_cons_mk (shut_int Try.underlying22 w1) (trodAll_cons_mk (shut_int Try.underlying22 w2) (trodAll_cons_mk (shut_int Try.underlying22 w3) (trodAll_cons_mk (shut_string Try.underlying9 w4) trodAll_mk0)))))) (fun _ _ => rfl) rfl
    (hg.frame _) hg.2.1 (ok_one (by kernel_rfl) rfl (okWide_bool_mk Try.underlying4 _))⟩

theorem over : Rows.cplxTellsRow.holds Try.pinned (OpenSpec.ofChange Rows.cplxTellsSpec) :=
  OpenClaim.holds_of_wide 3 Try.f3 rfl rfl rfl rfl rfl rfl rfl ⟨rfl, rfl, rfl, rfl, rfl⟩ rfl rfl rfl rfl rfl (by kernel_rfl) Try.func3 (by kernel_rfl)
    (of_decide_eq_true (by kernel_rfl)) (by unfold Func.isWrapper; first | (rw [if_pos (by decide +kernel)]; kernel_rfl) | (rw [if_neg (by decide +kernel)]; exact ⟨rfl, rfl⟩))
    (fun os started H enc _ => lifted os started H enc)

theorem proved : Rows.CplxTellsSaid :=
  over
#print axioms proved
end Go.Proofs.Ytlehddfefinadaa.cplxTells
