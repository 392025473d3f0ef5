/- For every text and every two numbers of 16 bits the statement WireBounds returns true, and its arguments read as before. -/
import Derived.Test.YtcgkifiijjmaiaaRows
import Derived.Test.YtcgkifiijjmaiaaBack
import Derived.WalkKit
import Derived.ProofKit
import Derived.OpenShut
import Derived.ShutString
namespace Go.Proofs.Ytcgkifiijjmaiaa.wireBounds
open Go.ChangeShapes Go.WideShapes Go.ChangeAt Go.RowKit
open Go.ChangeMaps (open_string shut_string)
set_option linter.unusedVariables false

theorem own : ownKnob Try.prog.godebug = none := by kernel_rfl

set_option maxRecDepth 100000 in
theorem walk (a0 : ByteArray) (a1 : Int) (a2 : Int) (w0 : a0.size ≤ maxLen) (w1 : (Lit.int .u16 a1).wf = true) (w2 : (Lit.int .u16 a2).wf = true) (w : World) :
    Calls Try.prog 8 #[.string a0, .int .u16 a1, .int .u16 a2] w fun e w' => e = .returned (.bool true) ∧ Grown w w' := by
  have hz := (show (0 : Int) ≤ a1 ∧ a1 ≤ 65535 by simpa [Lit.wf, IntKind.min, IntKind.max, IntKind.signed, IntKind.bits] using w1)
  have hz2 := (show (0 : Int) ≤ a2 ∧ a2 ≤ 65535 by simpa [Lit.wf, IntKind.min, IntKind.max, IntKind.signed, IntKind.bits] using w2)
  clear w1 w2
  obtain ⟨n, rfl⟩ : ∃ n : Nat, a1 = (n : Int) := ⟨a1.toNat, by omega⟩
  obtain ⟨most, rfl⟩ : ∃ n : Nat, a2 = (n : Int) := ⟨a2.toNat, by omega⟩
  by_cases hlen : 200 < a0.size
  · go_enter Try.func8, Try.ntmps8
    go_wp2_with fail
    refine (known_any w).mono ?_
    rintro e w1 ⟨rfl, f1⟩
    go_wp2_with fail
    go_ret
    exact ⟨rfl, f1.toGrown⟩
  · have hb := bytes_append (bytes_enc a0.size) (nl_lt a0)
    have hel := enc_length a0.size
    have hnl := nl_length a0
    have t1 := tx_fits (nl a0) [] a0.size (by omega) (by omega)
    have t2 := tx_big (nl a0) [] ((a0.size : Int) - 1) (by omega) (by omega)
    rw [List.append_nil, hnl] at t1 t2
    have hlen2 : (enc a0.size ++ nl a0).length ≤ 1099511627776 := by rw [List.length_append]; omega
    have hnb := bytes_enc n
    have hnl2 := enc_length n
    have T1 : Hid (tx (enc a0.size ++ nl a0) (a0.size : Int) = (nl a0, 0, (enc a0.size).length + a0.size)) := t1
    have T2 : Hid (tx (enc a0.size ++ nl a0) ((a0.size : Int) - 1) = ([], 32, 0)) := t2
    have HL : Hid ((enc a0.size ++ nl a0).length ≤ 1099511627776) := hlen2
    clear t1 t2 hel hnl hlen2
    go_enter Try.func8, Try.ntmps8
    go_wp2_with fail
    refine (known_any w).mono ?_
    rintro e w1 ⟨rfl, f1⟩
    go_wp2_with fail
    refine (wb_new w w1 f1).mono ?_
    rintro e w2 ⟨p, rfl, h2⟩
    go_wp2_with fail
    refine (wb_text w w2 p [] h2 a0 (by simp; omega)).mono ?_
    rintro e w3 ⟨rfl, h3⟩
    rw [List.nil_append] at h3
    go_wp2_with fail
    refine (wb_bytes w w3 p _ h3 HL.out).mono ?_
    rintro e w4 ⟨v4, rfl, o4, h4, _, _⟩
    go_wp2_with fail
    refine (rb_open w4 w4 (Fr.refl _ _) v4 _ o4.sl HL.out).mono ?_
    rintro e w5 ⟨q5, rfl, h5⟩
    go_wp2_with fail
    refine (rb_text w4 w5 q5 _ h5 hb HL.out (a0.size : Int) (by omega) (by omega)).mono ?_
    rw [T1.out]
    rintro e w6 ⟨rfl, h6⟩
    have g6 := h4.kept h6.2.2
    clear h2 h3 h4 h5 h6 o4
    go_wp2_with fail
    refine (wb_bytes w w6 p _ g6 HL.out).mono ?_
    rintro e w7 ⟨v7, rfl, o7, h7, _, _⟩
    go_wp2_with fail
    refine (rb_open w7 w7 (Fr.refl _ _) v7 _ o7.sl HL.out).mono ?_
    rintro e w8 ⟨q8, rfl, h8⟩
    go_wp2_with fail
    refine (rb_text w7 w8 q8 _ h8 hb HL.out ((a0.size : Int) - 1) (by omega) (by omega)).mono ?_
    rw [T2.out]
    rintro e w9 ⟨rfl, h9⟩
    have f9 := (h7.kept h9.2.2).fr
    clear g6 o7 h7 h8 h9
    go_wp2_with fail
    refine (wb_new w w9 f9).mono ?_
    rintro e w10 ⟨p2, rfl, h10⟩
    go_wp2_with fail
    refine (wb_uint w w10 p2 [] h10 (by simp) n (by omega)).mono ?_
    rintro e w11 ⟨rfl, h11⟩
    rw [List.nil_append] at h11
    go_wp2_with fail
    refine (wb_bytes w w11 p2 _ h11 (by omega)).mono ?_
    rintro e w12 ⟨v12, rfl, o12, h12, _, _⟩
    go_wp2_with fail
    refine (rb_open w12 w12 (Fr.refl _ _) v12 _ o12.sl (by omega)).mono ?_
    rintro e w13 ⟨q13, rfl, h13⟩
    go_wp2_with fail
    refine (rb_count w12 w13 q13 _ h13 hnb (by omega) (most : Int) (by omega) (by omega)).mono ?_
    by_cases hm : (most : Int) < (n : Int)
    · have hc := ct_big n [] (most : Int) (by omega) hm
      rw [List.append_nil] at hc
      rw [hc]
      rintro e w14 ⟨rfl, h14⟩
      have f14 := (h12.kept h14.2.2).fr
      clear h10 h11 h12 h13 h14 o12 f9 hc
      have hm' : ¬ n ≤ most := by omega
      go_wp2_with fail
      go_ret
      exact ⟨rfl, f14.toGrown⟩
    · have hc := ct_fits n [] (most : Int) (by omega) hm
      rw [List.append_nil] at hc
      rw [hc]
      rintro e w14 ⟨rfl, h14⟩
      have f14 := (h12.kept h14.2.2).fr
      clear h10 h11 h12 h13 h14 o12 f9 hc
      have hm' : n ≤ most := by omega
      go_wp2_with fail
      go_ret
      exact ⟨rfl, f14.toGrown⟩

set_option maxRecDepth 100000 in
theorem lifted (os : Os) (started : os.Started) (H : Type) (enc : TypeId × Value → H) :
    ReturnsInHanded {} Try.checked os 8 .any (Rows.wireBoundsSpec.pre6 enc Try.prog Try.f8 Rows.wireBoundsRow.domain false) (Rows.wireBoundsSpec.post enc Try.prog Try.f8 false true false false) := by
  refine returnsInHanded_of_change (C := Try.checked) own started (by kernel_rfl) Try.func8
    (ChangeSpec.witness6 (enc := enc) (C := Try.checked) false ⟨#[], #[.string ByteArray.empty, .int .u16 0, .int .u16 0], []⟩ 8 (by kernel_rfl) (by kernel_rfl) (by kernel_rfl) (by kernel_rfl)) ?_
  intro W base args ds gs before hval0 hW hcnd _
  have hval : ∀ (j : Nat) t v, Try.f8.params[j]? = some t → args[j]? = some v → Value.okWide Try.prog W .any base t v := hval0
  have hW' := hW
  obtain ⟨p, q, hA0, hV, rfl, hfz, hnd⟩ := hW
  have hA : DataW.TrodAll enc Try.prog W 0 (fun _ => true) true Try.f8.params.toList args.toList ds p := hA0
  rw [Try.params8] at hA hval
  obtain ⟨v0, vs0, d0, ds0, p0, q0, hargs, rfl, rfl, h0, r0⟩ := trodAll_cons hA
  obtain ⟨v1, vs1, d1, ds1, p1, q1, rfl, rfl, rfl, h1, r1⟩ := trodAll_cons r0
  obtain ⟨v2, vs2, d2, ds2, p2, q2, rfl, rfl, rfl, h2, r2⟩ := trodAll_cons r1
  obtain ⟨rfl, rfl, rfl⟩ := trodAll_nil r2
  obtain rfl : args = #[v0, v1, v2] := by cases args; simp_all
  obtain ⟨rfl, rfl⟩ := trodVars_none hV
  obtain ⟨a0, rfl, rfl, rfl, w0⟩ := open_string Try.underlying9 (hval 0 9 v0 rfl rfl) h0
  obtain ⟨a1, rfl, rfl, rfl, w1⟩ := open_int Try.underlying79 (hval 1 79 v1 rfl rfl) h1
  obtain ⟨a2, rfl, rfl, rfl, w2⟩ := open_int Try.underlying79 (hval 2 79 v2 rfl rfl) h2
  clear hA0 hval0
  simp only [List.append_nil] at hW'
  refine (walk a0 a1 a2 w0 w1 w2 W).mono fun e W' ⟨he, hg⟩ => ?_
  subst he
  exact ⟨_, rfl, post_of_same (pa := []) (pv := []) hW' (fun _ _ _ => (trodAll_cons_mk (shut_bool Try.underlying4 _) trodAll_mk0)) (fun sp _ => (trodAll_cons_mk (shut_string Try.underlying9 w0) (trodAll_cons_mk (shut_int Try.underlying79 w1) (trodAll_cons_mk (shut_int Try.underlying79 w2) trodAll_mk0)))) (fun _ _ => rfl) rfl
    (hg.frame _) hg.2.1 (ok_one (by kernel_rfl) rfl (okWide_bool_mk Try.underlying4 _))⟩

theorem over : Rows.wireBoundsRow.holds Try.pinned (OpenSpec.ofChange Rows.wireBoundsSpec) :=
  OpenClaim.holds_of_wide 8 Try.f8 rfl rfl rfl rfl rfl rfl rfl ⟨rfl, rfl, rfl, rfl, rfl⟩ rfl rfl rfl rfl rfl (by kernel_rfl) Try.func8 (by kernel_rfl)
    (of_decide_eq_true (by kernel_rfl)) (by unfold Func.isWrapper; first | (rw [if_pos (by decide +kernel)]; kernel_rfl) | (rw [if_neg (by decide +kernel)]; exact ⟨rfl, rfl⟩))
    (fun os started H enc _ => lifted os started H enc)

theorem proved : Rows.WireBoundsSaid :=
  over
#print axioms proved
end Go.Proofs.Ytcgkifiijjmaiaa.wireBounds
