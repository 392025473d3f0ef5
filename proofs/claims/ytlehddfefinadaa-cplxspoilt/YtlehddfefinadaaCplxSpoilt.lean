/- CplxSpoilt answers true at every two words of bits, every place and every way to spoil their text: with a letter that is no digit, a digit too many, some too few, or a great letter ahead, package cplx reads it as no number. -/
import Derived.Test.YtlehddfefinadaaRows
import Derived.Test.YtlehddfefinadaaParse
import Derived.WalkKit
import Derived.BigRegion
import Derived.ProofKit
import Derived.OpenShut
import Derived.ShutString
namespace Go.Proofs.Ytlehddfefinadaa.cplxSpoilt
open Go.ChangeShapes Go.WideShapes Go.ChangeAt Go.RowKit
open Go.ChangeMaps (open_string shut_string)
set_option linter.unusedVariables false

theorem own : ownKnob Try.prog.godebug = none := by kernel_rfl

theorem bad_len {s : ByteArray} (h : s.size ≠ 33) : per s = 20 := by
  refine (parsed_no ?_).2.2
  unfold good
  rw [nl_length, decide_eq_false h]
  rfl
theorem bad_more {s : ByteArray} (h : s.size = 33) : per (s ++ ⟨#[48]⟩) = 20 := bad_len (by
  have e : ByteArray.size ⟨#[48]⟩ = 1 := rfl
  rw [ByteArray.size_append, e]
  omega)
theorem bad_less {s : ByteArray} {q : Nat} (h : s.size = 33) (hq : q < 32) : per (s.extract 0 (q + 1)) = 20 := bad_len (by
  rw [ByteArray.size_extract]
  omega)
theorem bad_head {s : ByteArray} : per (⟨#[67]⟩ ++ s) = 20 := by
  refine (parsed_no ?_).2.2
  have e : nl (⟨#[67]⟩ ++ s) = 67 :: nl s := by rw [nl_append]; rfl
  unfold good
  rw [e, List.head?_cons]
  simp
theorem bad_digit {s t : ByteArray} {q : Nat} (h : s.size = 33) : per (s.extract 0 (q + 1) ++ ⟨#[103]⟩ ++ t) = 20 := by
  refine (parsed_no ?_).2.2
  have e : nl (s.extract 0 (q + 1) ++ ⟨#[103]⟩ ++ t) = (nl s).take (q + 1) ++ ([103] ++ nl t) := by
    rw [nl_append, nl_append, nl_extract, List.append_assoc]
    rfl
  have hl := nl_length s
  cases hc : nl s with
  | nil => rw [hc] at hl; simp at hl; omega
  | cons c r =>
    unfold good
    rw [e, hc, List.take_succ_cons, List.cons_append, List.tail_cons, List.all_append, List.all_append]
    have : isHex 103 = false := by decide
    simp [this]
theorem fine {s : ByteArray} {a b : Nat} (h : nl s = ptx a b) : per s = 0 := (parsed_yes (by rw [h]; exact good_ptx a b)).2.2

set_option maxHeartbeats 2000000 in
theorem walk (a0 : Int) (a1 : Int) (a2 : Int) (a3 : Int) (w0 : (Lit.int .u64 a0).wf = true) (w1 : (Lit.int .u64 a1).wf = true) (w2 : (Lit.int .u8 a2).wf = true) (w3 : (Lit.int .u8 a3).wf = true) (w : World) :
    Calls Try.prog 7 #[.int .u64 a0, .int .u64 a1, .int .u8 a2, .int .u8 a3] w fun e w' => e = .returned (.bool true) ∧ Grown w w' := by
  obtain ⟨hb0, hb1⟩ := bounds_u64 w0
  obtain ⟨hb2, hb3⟩ := bounds_u64 w1
  obtain ⟨c0, c1⟩ := bounds_u8 w2
  obtain ⟨d0, d1⟩ := bounds_u8 w3
  obtain ⟨a, rfl⟩ := Int.eq_ofNat_of_zero_le hb0
  obtain ⟨b, rfl⟩ := Int.eq_ofNat_of_zero_le hb2
  obtain ⟨p, rfl⟩ := Int.eq_ofNat_of_zero_le c0
  have ha : a < 2 ^ 64 := by omega
  have hb : b < 2 ^ 64 := by omega
  have hf := run_from
  go_enter Try.func7, Try.ntmps7
  go_wp2_with fail
  refine (known_any _).mono ?_
  rintro e v1 ⟨rfl, g1⟩
  go_wp2_with fail
  refine (print_any _ _ ha hb _).mono ?_
  rintro e v2 ⟨rfl, g2⟩
  go_wp2_with fail
  obtain ⟨q, hq, hq32⟩ : ∃ q : Nat, (p : Int) % 32 = (q : Int) ∧ q < 32 := ⟨p % 32, by omega, by omega⟩
  simp only [hq]
  have hs := print_size a b
  have HN : Hid (nl (bstr (ptx a b)) = ptx a b) := nl_bstr _ (ptx_lt a b)
  generalize bstr (ptx a b) = s at *
  have hq1 : (q : Int) + 1 ≤ 33 := by omega
  have hq2 : (q : Int) + 1 + 1 ≤ 33 + 1 := by omega
  have hok : per s = 0 := fine HN.out
  clear hq w0 w1 w2 w3 HN
  go_region
  have h4 : a3 % 4 = 0 ∨ a3 % 4 = 1 ∨ a3 % 4 = 2 ∨ a3 % 4 = 3 := by omega
  rcases h4 with h4 | h4 | h4 | h4
  · have hp := bad_digit (t := s.extract (q + 1 + 1) 33) (q := q) hs
    go_wp2_with fail
    refine (parse_any _ _).mono ?_
    rintro e v3 ⟨rfl, rfl⟩
    go_wp2_with fail
    refine (parse_any _ _).mono ?_
    rintro e v3 ⟨rfl, rfl⟩
    go_wp2_with fail
    go_ret
    exact ⟨rfl, (grown_trans g1 g2).alloc _ _⟩
  · have hp := bad_more hs
    go_wp2_with fail
    refine (parse_any _ _).mono ?_
    rintro e v3 ⟨rfl, rfl⟩
    go_wp2_with fail
    refine (parse_any _ _).mono ?_
    rintro e v3 ⟨rfl, rfl⟩
    go_wp2_with fail
    go_ret
    exact ⟨rfl, (grown_trans g1 g2).alloc _ _⟩
  · have hp := bad_less hs hq32
    go_wp2_with fail
    refine (parse_any _ _).mono ?_
    rintro e v3 ⟨rfl, rfl⟩
    go_wp2_with fail
    refine (parse_any _ _).mono ?_
    rintro e v3 ⟨rfl, rfl⟩
    go_wp2_with fail
    go_ret
    exact ⟨rfl, (grown_trans g1 g2).alloc _ _⟩
  · have hp := bad_head (s := s.extract 1 33)
    go_wp2_with fail
    refine (parse_any _ _).mono ?_
    rintro e v3 ⟨rfl, rfl⟩
    go_wp2_with fail
    refine (parse_any _ _).mono ?_
    rintro e v3 ⟨rfl, rfl⟩
    go_wp2_with fail
    go_ret
    exact ⟨rfl, (grown_trans g1 g2).alloc _ _⟩

set_option maxRecDepth 100000 in
theorem lifted (os : Os) (started : os.Started) (H : Type) (enc : TypeId × Value → H) :
    ReturnsInHanded {} Try.checked os 7 .any (Rows.cplxSpoiltSpec.pre6 enc Try.prog Try.f7 Rows.cplxSpoiltRow.domain false) (Rows.cplxSpoiltSpec.post enc Try.prog Try.f7 false true false false) := by
  refine returnsInHanded_of_change (C := Try.checked) own started (by kernel_rfl) Try.func7
    (ChangeSpec.witness6 (enc := enc) (C := Try.checked) false ⟨#[], #[.int .u64 0, .int .u64 0, .int .u8 0, .int .u8 0], []⟩ 8 (by kernel_rfl) (by kernel_rfl) (by kernel_rfl) (by kernel_rfl)) ?_
  intro W base args ds gs before hval0 hW hcnd _
  have hval : ∀ (j : Nat) t v, Try.f7.params[j]? = some t → args[j]? = some v → Value.okWide Try.prog W .any base t v := hval0
  have hW' := hW
  obtain ⟨p, q, hA0, hV, rfl, hfz, hnd⟩ := hW
  have hA : DataW.TrodAll enc Try.prog W 0 (fun _ => true) true Try.f7.params.toList args.toList ds p := hA0
  rw [Try.params7] at hA hval
  obtain ⟨v0, vs0, d0, ds0, p0, q0, hargs, rfl, rfl, h0, r0⟩ := trodAll_cons hA
  obtain ⟨v1, vs1, d1, ds1, p1, q1, rfl, rfl, rfl, h1, r1⟩ := trodAll_cons r0
  obtain ⟨v2, vs2, d2, ds2, p2, q2, rfl, rfl, rfl, h2, r2⟩ := trodAll_cons r1
  obtain ⟨v3, vs3, d3, ds3, p3, q3, rfl, rfl, rfl, h3, r3⟩ := trodAll_cons r2
  obtain ⟨rfl, rfl, rfl⟩ := trodAll_nil r3
  obtain rfl : args = #[v0, v1, v2, v3] := by cases args; simp_all
  obtain ⟨rfl, rfl⟩ := trodVars_none hV
  obtain ⟨a0, rfl, rfl, rfl, w0⟩ := open_int Try.underlying22 (hval 0 22 v0 rfl rfl) h0
  obtain ⟨a1, rfl, rfl, rfl, w1⟩ := open_int Try.underlying22 (hval 1 22 v1 rfl rfl) h1
  obtain ⟨a2, rfl, rfl, rfl, w2⟩ := open_int Try.underlying5 (hval 2 5 v2 rfl rfl) h2
  obtain ⟨a3, rfl, rfl, rfl, w3⟩ := open_int Try.underlying5 (hval 3 5 v3 rfl rfl) h3
  clear hA0 hval0
  simp only [List.append_nil] at hW'
  refine (walk a0 a1 a2 a3 w0 w1 w2 w3 W).mono fun e W' ⟨he, hg⟩ => ?_
  subst he
  exact ⟨_, rfl, post_of_same (pa := []) (pv := []) hW' (fun _ _ _ => (trodAll_cons_mk (shut_bool Try.underlying4 _) trodAll_mk0)) (fun sp _ => (trodAll_cons_mk (shut_int Try.underlying22 w0) (trodAll_cons_mk (shut_int Try.underlying22 w1) (trodAll_cons_mk (shut_int Try.underlying5 w2) (trodAll_cons_mk (shut_int Try.underlying5 w3) trodAll_mk0))))) (fun _ _ => rfl) rfl
    (hg.frame _) hg.2.1 (ok_one (by kernel_rfl) rfl (okWide_bool_mk Try.underlying4 _))⟩

theorem over : Rows.cplxSpoiltRow.holds Try.pinned (OpenSpec.ofChange Rows.cplxSpoiltSpec) :=
  OpenClaim.holds_of_wide 7 Try.f7 rfl rfl rfl rfl rfl rfl rfl ⟨rfl, rfl, rfl, rfl, rfl⟩ rfl rfl rfl rfl rfl (by kernel_rfl) Try.func7 (by kernel_rfl)
    (of_decide_eq_true (by kernel_rfl)) (by unfold Func.isWrapper; first | (rw [if_pos (by decide +kernel)]; kernel_rfl) | (rw [if_neg (by decide +kernel)]; exact ⟨rfl, rfl⟩))
    (fun os started H enc _ => lifted os started H enc)

theorem proved : Rows.CplxSpoiltSaid :=
  over
#print axioms proved
end Go.Proofs.Ytlehddfefinadaa.cplxSpoilt
