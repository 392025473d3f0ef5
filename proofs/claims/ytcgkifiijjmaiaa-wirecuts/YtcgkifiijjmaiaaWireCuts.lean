/- For every text, every number of 64 bits and every cut the statement WireCuts returns true, and its arguments read as before. -/
import Derived.Test.YtcgkifiijjmaiaaRows
import Derived.Test.YtcgkifiijjmaiaaLong
import Derived.Test.YtcgkifiijjmaiaaCut
import Derived.WalkKit
import Derived.ProofKit
import Derived.OpenShut
import Derived.ShutString
namespace Go.Proofs.Ytcgkifiijjmaiaa.wireCuts
open Go.ChangeShapes Go.WideShapes Go.ChangeAt Go.RowKit
open Go.ChangeMaps (open_string shut_string)
set_option linter.unusedVariables false

theorem own : ownKnob Try.prog.godebug = none := by kernel_rfl

set_option maxRecDepth 100000 in
theorem walk (a0 : ByteArray) (a1 : Int) (a2 : Int) (w0 : a0.size ≤ maxLen) (w1 : (Lit.int .i64 a1).wf = true) (w2 : (Lit.int .u8 a2).wf = true) (w : World) :
    Calls Try.prog 7 #[.string a0, .int .i64 a1, .int .u8 a2] w fun e w' => e = .returned (.bool true) ∧ Grown w w' := by
  have hz := (show (-9223372036854775808 : Int) ≤ a1 ∧ a1 ≤ 9223372036854775807 by simpa [Lit.wf, IntKind.min, IntKind.max, IntKind.signed, IntKind.bits] using w1)
  have hz2 := (show (0 : Int) ≤ a2 ∧ a2 ≤ 255 by simpa [Lit.wf, IntKind.min, IntKind.max, IntKind.signed, IntKind.bits] using w2)
  clear w1 w2
  obtain ⟨cut, rfl⟩ : ∃ n : Nat, a2 = (n : Int) := ⟨a2.toNat, by omega⟩
  by_cases hlen : 200 < a0.size
  · go_enter Try.func7, Try.ntmps7
    go_wp2_with fail
    refine (known_any w).mono ?_
    rintro e w1 ⟨rfl, f1⟩
    go_wp2_with fail
    go_ret
    exact ⟨rfl, f1.toGrown⟩
  · obtain ⟨T, hT⟩ : ∃ T, enc a0.size ++ nl a0 = T := ⟨_, rfl⟩
    have hTb : ∀ c ∈ T, c < 256 := by rw [← hT]; exact bytes_append (bytes_enc a0.size) (nl_lt a0)
    obtain ⟨I, hI⟩ : ∃ I, enc (fo a1) = I := ⟨_, rfl⟩
    have hIb : ∀ c ∈ I, c < 256 := by rw [← hI]; exact bytes_enc _
    have hIl : 0 < I.length ∧ I.length ≤ 10 := by rw [← hI]; exact enc_length _
    have hTl : T.length ≤ 210 := by have := enc_length a0.size; rw [← hT, List.length_append, nl_length]; omega
    have hfo := fo_lt a1 hz.1 hz.2
    obtain ⟨k, hk⟩ : ∃ k, cut % (T ++ I).length = k := ⟨_, rfl⟩
    have hkl : k < (T ++ I).length := by rw [← hk]; exact Nat.mod_lt _ (by rw [List.length_append]; omega)
    have hmod : (cut : Int) % ((T.length : Int) + (I.length : Int)) = (k : Int) := by rw [← hk, List.length_append]; simp
    have hAb := bytes_append hTb hIb
    have HT : Hid (enc a0.size ++ nl a0 = T) := hT
    have HI : Hid (enc (fo a1) = I) := hI
    rw [List.length_append] at hkl
    clear hT hI hk
    go_enter Try.func7, Try.ntmps7
    go_wp2_with fail
    refine (known_any w).mono ?_
    rintro e w1 ⟨rfl, f1⟩
    go_wp2_with fail
    refine (wb_new w w1 f1).mono ?_
    rintro e w2 ⟨p, rfl, h2⟩
    go_wp2_with fail
    refine (wb_text w w2 p [] h2 a0 (by simp; omega)).mono ?_
    rintro e w3 ⟨rfl, h3⟩
    rw [List.nil_append, HT.out] at h3
    go_wp2_with fail
    refine (wb_bytes w w3 p _ h3 (by omega)).mono ?_
    rintro e w4 ⟨v4, rfl, o4, h4, _, _⟩
    obtain ⟨oo, cap, e4⟩ := o4.shape
    subst e4
    clear h2 h3 o4
    go_wp2_with fail
    refine (wb_int w w4 p _ h4 (by omega) a1 hz.1 hz.2).mono ?_
    rintro e w5 ⟨rfl, h5⟩
    rw [HI.out] at h5
    go_wp2_with fail
    refine (wb_bytes w w5 p _ h5 (by rw [List.length_append]; omega)).mono ?_
    rintro e w6 ⟨v6, rfl, o6, h6, _, _⟩
    have f6 := h6.fr
    have hsl := o6.sl
    obtain ⟨g, cap6, e6, hc6, hm6⟩ := o6.head (by intro h; have h2 := (List.append_eq_nil_iff.1 h).2; rw [h2] at hIl; simp at hIl)
    subst e6
    have hst := hsl.take k (by rw [List.length_append]; omega)
    rw [List.length_append] at hc6
    unfold maxLen at hm6
    clear h4 h5 h6 o6 hsl
    go_wp2_with fail
    refine (rb_open w w6 f6 _ _ hst (by rw [List.length_take, List.length_append]; omega)).mono ?_
    rintro e w7 ⟨q, rfl, h7⟩
    have hAt : ∀ c ∈ (T ++ I).take k, c < 256 := fun c hc => hAb c (List.mem_of_mem_take hc)
    have hAl : ((T ++ I).take k).length = k := by rw [List.length_take, List.length_append]; omega
    go_wp2_with fail
    refine (rb_text w w7 q _ h7 hAt (by omega) 300 (by omega) (by omega)).mono ?_
    by_cases hcut : k < T.length
    · have ht : tx ((T ++ I).take k) 300 = ([], 30, 0) := by
        rw [take_early T I k hcut, ← HT.out]
        have := tx_cut (nl a0) k 300 (by rw [nl_length]; omega) (by rw [nl_length]; omega) (by rw [nl_length, HT.out]; exact hcut)
        rw [nl_length] at this
        exact this
      rw [ht]
      rintro e w8 ⟨rfl, h8⟩
      rw [List.drop_zero] at h8
      have eb : bstr [] = ⟨#[]⟩ := rfl
      rw [eb]
      clear hst h7 ht
      go_wp2_with fail
      refine (left_any w8 q _ h8.1).mono ?_
      rintro e w9 ⟨rfl, rfl⟩
      rw [hAl]
      have f9 := h8.2.2
      clear h8
      go_wp2_with fail
      go_ret
      exact ⟨rfl, f9.toGrown⟩
    · have ht := tx_uncut (nl a0) I k 300 (by rw [nl_length]; omega) (by rw [nl_length]; omega) (by rw [nl_length, HT.out]; exact hcut)
      rw [nl_length, HT.out] at ht
      rw [ht.1]
      rintro e w8 ⟨rfl, h8⟩
      simp only [] at h8
      rw [ht.2] at h8
      rw [bstr_nl]
      have hr := rd_cut_enc (fo a1) (k - T.length) hfo (by rw [HI.out]; omega)
      rw [HI.out] at hr
      have hIl2 : (I.take (k - T.length)).length = k - T.length := by rw [List.length_take]; omega
      clear hst h7 ht
      go_wp2_with fail
      refine (rb_int w w8 q _ h8 (fun c hc => hIb c (List.mem_of_mem_take hc)) (by omega)).mono ?_
      rw [hr]
      rintro e w9 ⟨rfl, h9⟩
      rw [List.drop_zero] at h9
      have eu : unf 0 = 0 := rfl
      rw [eu]
      go_wp2_with fail
      refine (left_any w9 q _ h9.1).mono ?_
      rintro e w10 ⟨rfl, rfl⟩
      rw [hIl2]
      have f9 := h9.2.2
      have hsub : ((k - T.length : Nat) : Int) = (k : Int) - (T.length : Int) := by omega
      clear h8 h9
      go_wp2_with fail
      go_ret
      exact ⟨rfl, f9.toGrown⟩

set_option maxRecDepth 100000 in
theorem lifted (os : Os) (started : os.Started) (H : Type) (enc : TypeId × Value → H) :
    ReturnsInHanded {} Try.checked os 7 .any (Rows.wireCutsSpec.pre6 enc Try.prog Try.f7 Rows.wireCutsRow.domain false) (Rows.wireCutsSpec.post enc Try.prog Try.f7 false true false false) := by
  refine returnsInHanded_of_change (C := Try.checked) own started (by kernel_rfl) Try.func7
    (ChangeSpec.witness6 (enc := enc) (C := Try.checked) false ⟨#[], #[.string ByteArray.empty, .int .i64 0, .int .u8 0], []⟩ 8 (by kernel_rfl) (by kernel_rfl) (by kernel_rfl) (by kernel_rfl)) ?_
  intro W base args ds gs before hval0 hW hcnd _
  have hval : ∀ (j : Nat) t v, Try.f7.params[j]? = some t → args[j]? = some v → Value.okWide Try.prog W .any base t v := hval0
  have hW' := hW
  obtain ⟨p, q, hA0, hV, rfl, hfz, hnd⟩ := hW
  have hA : DataW.TrodAll enc Try.prog W 0 (fun _ => true) true Try.f7.params.toList args.toList ds p := hA0
  rw [Try.params7] at hA hval
  obtain ⟨v0, vs0, d0, ds0, p0, q0, hargs, rfl, rfl, h0, r0⟩ := trodAll_cons hA
  obtain ⟨v1, vs1, d1, ds1, p1, q1, rfl, rfl, rfl, h1, r1⟩ := trodAll_cons r0
  obtain ⟨v2, vs2, d2, ds2, p2, q2, rfl, rfl, rfl, h2, r2⟩ := trodAll_cons r1
  obtain ⟨rfl, rfl, rfl⟩ := trodAll_nil r2
  obtain rfl : args = #[v0, v1, v2] := by cases args; simp_all
  obtain ⟨rfl, rfl⟩ := trodVars_none hV
  obtain ⟨a0, rfl, rfl, rfl, w0⟩ := open_string Try.underlying9 (hval 0 9 v0 rfl rfl) h0
  obtain ⟨a1, rfl, rfl, rfl, w1⟩ := open_int Try.underlying2 (hval 1 2 v1 rfl rfl) h1
  obtain ⟨a2, rfl, rfl, rfl, w2⟩ := open_int Try.underlying5 (hval 2 5 v2 rfl rfl) h2
  clear hA0 hval0
  simp only [List.append_nil] at hW'
  refine (walk a0 a1 a2 w0 w1 w2 W).mono fun e W' ⟨he, hg⟩ => ?_
  subst he
  exact ⟨_, rfl, post_of_same (pa := []) (pv := []) hW' (fun _ _ _ => (trodAll_cons_mk (shut_bool Try.underlying4 _) trodAll_mk0)) (fun sp _ => (trodAll_cons_mk (shut_string Try.underlying9 w0) (trodAll_cons_mk (shut_int Try.underlying2 w1) (trodAll_cons_mk (shut_int Try.underlying5 w2) trodAll_mk0)))) (fun _ _ => rfl) rfl
    (hg.frame _) hg.2.1 (ok_one (by kernel_rfl) rfl (okWide_bool_mk Try.underlying4 _))⟩

theorem over : Rows.wireCutsRow.holds Try.pinned (OpenSpec.ofChange Rows.wireCutsSpec) :=
  OpenClaim.holds_of_wide 7 Try.f7 rfl rfl rfl rfl rfl rfl rfl ⟨rfl, rfl, rfl, rfl, rfl⟩ rfl rfl rfl rfl rfl (by kernel_rfl) Try.func7 (by kernel_rfl)
    (of_decide_eq_true (by kernel_rfl)) (by unfold Func.isWrapper; first | (rw [if_pos (by decide +kernel)]; kernel_rfl) | (rw [if_neg (by decide +kernel)]; exact ⟨rfl, rfl⟩))
    (fun os started H enc _ => lifted os started H enc)

theorem proved : Rows.WireCutsSaid :=
  over
#print axioms proved
end Go.Proofs.Ytcgkifiijjmaiaa.wireCuts
