/- What the document's own Parse of complex numbers answers: the same as package cplx's, at every text. -/
import Derived.Test.YtlehddfefinadaaRef
namespace Go.Proofs.Ytlehddfefinadaa
open Go.ChangeShapes Go.WideShapes Go.ChangeAt Go.RowKit
open Ieee (double)

theorem nl_first (s : ByteArray) : nl (s.extract 1 17) = (nl s).tail.take 16 := by rw [nl_extract, List.drop_one]
theorem nl_second (s : ByteArray) (hs : s.size = 33) : nl (s.extract 17 33) = (nl s).tail.drop 16 := by
  rw [nl_extract, List.take_of_length_le (by rw [List.length_drop, nl_length]; omega), ← List.drop_one, List.drop_drop]

theorem unhex_same (s : ByteArray) (hs : s.size = 16) (w : World) : Calls Try.prog 33 #[.string s] w fun e w' => e = .returned (.int .u64 (uval (nl s) : Int)) ∧ w' = w :=
  (unhex_any s hs w).mono fun _ _ h => ⟨h.1, h.2.symm⟩
theorem of_same (a b : Nat) (w : World) : Calls Try.prog 9 #[.int .u64 (a : Int), .int .u64 (b : Int)] w fun e w' => e = .returned (.complex .f64 a b) ∧ w' = w :=
  (of_any a b w).mono fun _ _ h => ⟨h.1, h.2.symm⟩

theorem same_text (s : ByteArray) (hs : s.size = 33) : ((bstr (ptx (vre (nl s)) (vim (nl s)))).toList == s.toList) = good (nl s) := by
  have hl : (nl s).length = 33 := by rw [nl_length]; exact hs
  have hi := good_iff (nl s) hl
  by_cases h : good (nl s) = true
  · rw [h, hi.1 h, bstr_nl]
    simp
  · have h' : good (nl s) = false := by simpa using h
    rw [h', beq_eq_false_iff_ne]
    intro he
    apply h
    rw [hi]
    rw [ByteArray.toList_eq, ByteArray.toList_eq] at he
    have : bstr (ptx (vre (nl s)) (vim (nl s))) = s := ByteArray.ext (Array.toList_inj.1 he)
    rw [← nl_bstr _ (ptx_lt (vre (nl s)) (vim (nl s))), this]

theorem grown_drewN (w : World) (n : Nat) : Grown w (w.drewN n) := by
  induction n with
  | zero => exact Grown.refl w
  | succ n ih => exact ih.drew

set_option maxHeartbeats 1000000 in
theorem refparse_any (s : ByteArray) (w : World) : Calls Try.prog 13 #[.string s] w fun e w' => e = .returned (.tuple #[.complex .f64 (pre s) (pim s), .int .i64 (per s)]) ∧ Grown w w' := by
  by_cases hs : s.size = 33
  · have hl : (nl s).length = 33 := by rw [nl_length]; exact hs
    obtain ⟨hv1, hv2⟩ := v_lt hl
    have hst := same_text s hs
    by_cases hg : good (nl s) = true
    · have HP : Hid (pre s = vre (nl s) ∧ pim s = vim (nl s) ∧ per s = 0) := parsed_yes hg
      rw [hg] at hst
      have c1 : uval (nl (s.extract 1 17)) = vre (nl s) := by rw [nl_first]; rfl
      have c2 : uval (nl (s.extract 17 33)) = vim (nl s) := by rw [nl_second s hs]; rfl
      clear hg hl
      generalize vre (nl s) = x at *
      generalize vim (nl s) = y at *
      go_enter Try.func13, Try.ntmps13
      go_wp2_with fail
      go_quiet (first | (go_at_call 33; refine Calls.quiet_of_same (unhex_same _ (by rw [ByteArray.size_extract]; omega) _)) | (go_at_call 9; refine Calls.quiet_of_same (of_same _ _ _)))
      go_wp2_with fail
      refine (refprint_any x y hv1 hv2 _).mono ?_
      rintro e w1 ⟨rfl, rfl⟩
      go_wp2_with fail
      go_ret2
      exact ⟨by rw [HP.out.1, HP.out.2.1, HP.out.2.2]; rfl, grown_drewN _ _⟩
    · have hg' : good (nl s) = false := by simpa using hg
      have HP : Hid (pre s = 0 ∧ pim s = 0 ∧ per s = 20) := parsed_no hg'
      rw [hg'] at hst
      have c1 : uval (nl (s.extract 1 17)) = vre (nl s) := by rw [nl_first]; rfl
      have c2 : uval (nl (s.extract 17 33)) = vim (nl s) := by rw [nl_second s hs]; rfl
      clear hg hg' hl
      generalize vre (nl s) = x at *
      generalize vim (nl s) = y at *
      go_enter Try.func13, Try.ntmps13
      go_wp2_with fail
      go_quiet (first | (go_at_call 33; refine Calls.quiet_of_same (unhex_same _ (by rw [ByteArray.size_extract]; omega) _)) | (go_at_call 9; refine Calls.quiet_of_same (of_same _ _ _)))
      go_wp2_with fail
      refine (refprint_any x y hv1 hv2 _).mono ?_
      rintro e w1 ⟨rfl, rfl⟩
      go_wp2_with fail
      go_ret2
      exact ⟨by rw [HP.out.1, HP.out.2.1, HP.out.2.2]; rfl, grown_drewN _ _⟩
  · have HP : Hid (pre s = 0 ∧ pim s = 0 ∧ per s = 20) := parsed_no (by unfold good; rw [nl_length, decide_eq_false hs]; rfl)
    go_enter Try.func13, Try.ntmps13
    go_wp2_with fail
    go_ret2
    exact ⟨by rw [HP.out.1, HP.out.2.1, HP.out.2.2]; rfl, Grown.refl _⟩
end Go.Proofs.Ytlehddfefinadaa
