/- For every number of 64 bits the statement WireGroups returns true, and its argument reads as before. -/
import Derived.Test.YtcgkifiijjmaiaaRows
import Derived.Test.YtcgkifiijjmaiaaLong
import Derived.WalkKit
import Derived.ProofKit
import Derived.OpenShut
import Derived.ShutString
namespace Go.Proofs.Ytcgkifiijjmaiaa.wireGroups
open Go.ChangeShapes Go.WideShapes Go.ChangeAt Go.RowKit
open Go.ChangeMaps (open_string shut_string)
set_option linter.unusedVariables false

theorem own : ownKnob Try.prog.godebug = none := by kernel_rfl

set_option maxRecDepth 100000 in
theorem walk (a0 : Int) (w0 : (Lit.int .u64 a0).wf = true) (w : World) :
    Calls Try.prog 6 #[.int .u64 a0] w fun e w' => e = .returned (.bool true) ∧ Grown w w' := by
  have hz := (show (0 : Int) ≤ a0 ∧ a0 ≤ 18446744073709551615 by simpa [Lit.wf, IntKind.min, IntKind.max, IntKind.signed, IntKind.bits] using w0)
  clear w0
  obtain ⟨n, rfl⟩ : ∃ n : Nat, a0 = (n : Int) := ⟨a0.toNat, by omega⟩
  have hn64 : n < 2 ^ 64 := by omega
  have hel := enc_length n
  obtain ⟨pre, t, hpt, ht, hrd⟩ := rd_long 9 n 0 0 rfl hn64
  have hpl : (enc n).length = pre.length + 1 := by unfold enc; rw [hpt]; simp
  have hpre : pre.length ≤ 9 := by omega
  have HP : Hid (enc n = pre ++ [t]) := hpt
  have HR : Hid (rd (pre ++ [t + 128] ++ [0]) 0 0 = (0, 31, 0)) := hrd
  clear hpt hrd
  go_enter Try.func6, Try.ntmps6
  go_wp2_with fail
  refine (known_any w).mono ?_
  rintro e w1 ⟨rfl, f1⟩
  go_wp2_with fail
  refine (wb_new w w1 f1).mono ?_
  rintro e w2 ⟨p, rfl, h2⟩
  go_wp2_with fail
  refine (wb_uint w w2 p [] h2 (by simp) n hn64).mono ?_
  rintro e w3 ⟨rfl, h3⟩
  rw [List.nil_append] at h3
  go_wp2_with fail
  refine (wb_bytes w w3 p _ h3 (by omega)).mono ?_
  rintro e w4 ⟨v4, rfl, o4, h4, _, _⟩
  have f4 := h4.fr
  obtain ⟨o, cap, e4⟩ := o4.shape
  subst e4
  rw [hpl] at o4 ⊢
  have HPL : Hid ((enc n).length = pre.length + 1) := hpl
  have HN : Hid (n < 2 ^ 64) := hn64
  clear h2 h3 h4 f1 hpl hn64
  go_wp2_with fail
  go_loop [5, 6] (fun k m => ∃ (f j r : Nat), k = .int .i64 (j : Int) ∧ m = .int .u64 ((r / 128 : Nat) : Int) ∧ j + (en f r).length = pre.length + 2 ∧ r < 2 ^ (7 * f + 1) ∧ j ≤ 10 ∧ r ≤ n) (fun _ m => (intOf m).toNat)
  case atStart => exact ⟨9, 1, n, rfl, rfl, by have := HPL.out; unfold enc at this; omega, HN.out, by omega, Nat.le_refl _⟩
  case round =>
    obtain ⟨f, j, r, rfl, rfl, hj, hr, hj10, hrn⟩ := hrel
    have HJ : Hid (j + (en f r).length = pre.length + 2) := hj
    have HRR : Hid (r < 2 ^ (7 * f + 1)) := hr
    clear hj hr
    by_cases h128 : 128 ≤ r
    · obtain ⟨f, rfl⟩ : ∃ g, f = g + 1 := by
        cases f with
        | zero => exact absurd HRR.out (by omega)
        | succ g => exact ⟨g, rfl⟩
      have hlt : 0 < r / 128 := by omega
      go_wp2_with fail
      go_round
      case rel =>
        have h1 := HJ.out
        have h2 := HRR.out
        rw [en_step f r h128, List.length_cons] at h1
        rw [show 7 * (f + 1) + 1 = 7 + (7 * f + 1) by omega, Nat.pow_add] at h2
        have := (en_length f (r / 128)).1
        exact ⟨f, j + 1, r / 128, by go_num, by go_num, by omega, by omega, by omega, by omega⟩
      case measure => simp [intOf]; omega
    · have hlt : ¬ 0 < r / 128 := by omega
      have hj : j = pre.length + 1 := by have := HJ.out; rw [en_small f r (by omega)] at this; simp at this; omega
      subst hj
      have hr0 : r / 128 = 0 := by omega
      rw [hr0]
      clear hlt hr0 HJ HRR h128 hrn
      rw [HP.out] at o4
      have hsrc := o4.sl.src
      have hbd : ([] : List Nat).length + (pre ++ [t]).length ≤ 1099511627776 := by simp; omega
      have hsub : ((pre.length : Int) + 1 - 1) = (pre.length : Int) := by omega
      obtain ⟨c, hcc⟩ : ∃ c : Nat, t + 128 = c := ⟨_, rfl⟩
      have hor := or_small t ht
      rw [hcc] at hor
      rw [hcc] at HR
      have hbd2 : (pre ++ [c]).length + ([0] : List Nat).length ≤ 1099511627776 := by simp; omega
      go_wp2_with (first | (at_builtin; refine wpList_apd _ rfl rfl (.const (.slice none 0 0)) (.tmp 31) 26 rfl (.slice none 0 0) [] rfl (Own.nil _) _ rfl (pre ++ [t]) hsrc hbd ?_; intro v5 w5 o5 s5; obtain ⟨g, cap5, e5, hcap5, hmx5⟩ := o5.head (by simp); simp only [List.nil_append, List.length_append, List.length_cons, List.length_nil, Nat.zero_add] at e5 hcap5 o5; subst e5; have hcell := o5.cell pre.length t (by simp); have hfree := o5.free pre.length; unfold maxLen at hmx5; have o6 := (o5.set pre.length c).kept ((Fr.refl no _).alloc #[.int .u8 0] 5) (fun _ _ f => f); rw [set_last] at o6; have hs6 := src_zero w5 ⟨g, pre.length, none⟩ (.int .u8 (c : Int))) | (at_builtin; refine wpList_apd _ rfl rfl (.tmp 43) (.tmp 44) 26 rfl (.slice (some ⟨g, 0, none⟩) (pre.length + 1) cap5) (pre ++ [c]) rfl o6 _ rfl [0] hs6 hbd2 ?_; intro v7 w7 o7 s7; have f7 := grown_twice f4 s5 s7; have hsl7 := o7.sl; obtain ⟨oo7, cap7, e7⟩ := o7.shape; simp only [List.length_append, List.length_cons, List.length_nil, Nat.zero_add] at e7; subst e7; clear o5 s5 o6 s7 hs6 o7 hsrc hcell hfree))
      refine (rb_open w7 w7 (Fr.refl _ _) _ _ hsl7 (by simp; omega)).mono ?_
      rintro e w8 ⟨q, rfl, h8⟩
      go_wp2_with fail
      refine (rb_uint w7 w8 q _ h8 (by
        intro x hx
        have hpb := bytes_enc n
        rw [HP.out] at hpb
        simp at hx
        rcases hx with h | h | h
        · exact hpb x (by simp [h])
        · omega
        · omega) (by simp; omega)).mono ?_
      rw [HR.out]
      rintro e w9 ⟨rfl, h9⟩
      rw [List.drop_zero] at h9
      go_wp2_with fail
      refine (left_any w9 q _ h9.1).mono ?_
      rintro e w10 ⟨rfl, rfl⟩
      have f9 := f7.new h9.2.2 (fun _ _ f => f)
      clear h8 h9
      have he : ((pre.length : Int) + 2 == (pre.length : Int) + 1 + 1) = true := by simp; omega
      go_wp2_with fail
      go_ret
      exact ⟨rfl, f9.toGrown⟩

set_option maxRecDepth 100000 in
theorem lifted (os : Os) (started : os.Started) (H : Type) (enc : TypeId × Value → H) :
    ReturnsInHanded {} Try.checked os 6 .any (Rows.wireGroupsSpec.pre6 enc Try.prog Try.f6 Rows.wireGroupsRow.domain false) (Rows.wireGroupsSpec.post enc Try.prog Try.f6 false true false false) := by
  refine returnsInHanded_of_change (C := Try.checked) own started (by kernel_rfl) Try.func6
    (ChangeSpec.witness6 (enc := enc) (C := Try.checked) false ⟨#[], #[.int .u64 0], []⟩ 8 (by kernel_rfl) (by kernel_rfl) (by kernel_rfl) (by kernel_rfl)) ?_
  intro W base args ds gs before hval0 hW hcnd _
  have hval : ∀ (j : Nat) t v, Try.f6.params[j]? = some t → args[j]? = some v → Value.okWide Try.prog W .any base t v := hval0
  have hW' := hW
  obtain ⟨p, q, hA0, hV, rfl, hfz, hnd⟩ := hW
  have hA : DataW.TrodAll enc Try.prog W 0 (fun _ => true) true Try.f6.params.toList args.toList ds p := hA0
  rw [Try.params6] at hA hval
  obtain ⟨v0, vs0, d0, ds0, p0, q0, hargs, rfl, rfl, h0, r0⟩ := trodAll_cons hA
  obtain ⟨rfl, rfl, rfl⟩ := trodAll_nil r0
  obtain rfl : args = #[v0] := by cases args; simp_all
  obtain ⟨rfl, rfl⟩ := trodVars_none hV
  obtain ⟨a0, rfl, rfl, rfl, w0⟩ := open_int Try.underlying27 (hval 0 27 v0 rfl rfl) h0
  clear hA0 hval0
  simp only [List.append_nil] at hW'
  refine (walk a0 w0 W).mono fun e W' ⟨he, hg⟩ => ?_
  subst he
  exact ⟨_, rfl, post_of_same (pa := []) (pv := []) hW' (fun _ _ _ => (trodAll_cons_mk (shut_bool Try.underlying4 _) trodAll_mk0)) (fun sp _ => (trodAll_cons_mk (shut_int Try.underlying27 w0) trodAll_mk0)) (fun _ _ => rfl) rfl
    (hg.frame _) hg.2.1 (ok_one (by kernel_rfl) rfl (okWide_bool_mk Try.underlying4 _))⟩

theorem over : Rows.wireGroupsRow.holds Try.pinned (OpenSpec.ofChange Rows.wireGroupsSpec) :=
  OpenClaim.holds_of_wide 6 Try.f6 rfl rfl rfl rfl rfl rfl rfl ⟨rfl, rfl, rfl, rfl, rfl⟩ rfl rfl rfl rfl rfl (by kernel_rfl) Try.func6 (by kernel_rfl)
    (of_decide_eq_true (by kernel_rfl)) (by unfold Func.isWrapper; first | (rw [if_pos (by decide +kernel)]; kernel_rfl) | (rw [if_neg (by decide +kernel)]; exact ⟨rfl, rfl⟩))
    (fun os started H enc _ => lifted os started H enc)

theorem proved : Rows.WireGroupsSaid :=
  over
#print axioms proved
end Go.Proofs.Ytcgkifiijjmaiaa.wireGroups
