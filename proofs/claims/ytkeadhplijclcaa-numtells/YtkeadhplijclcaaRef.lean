/- What the document's own small functions of integers answer (the reference of the statement NumTells). -/
import Derived.Test.YtkeadhplijclcaaParse
import Derived.Test.YtkeadhplijclcaaBack
namespace Go.Proofs.Ytkeadhplijclcaa
open Go.ChangeShapes Go.WideShapes Go.ChangeAt Go.RowKit

theorem u64_wrap (x : Int) : IntKind.u64.wrap x = x % 18446744073709551616 := by simp [IntKind.wrap, IntKind.signed, IntKind.bits]
theorem u64_add (a b : Int) : wrap64 (IntKind.u64.wrap (IntKind.u64.wrap a + IntKind.u64.wrap b)) = wrap64 (a + b) := by
  rw [u64_wrap, u64_wrap, u64_wrap, ← Int.add_emod]
  exact w64_congr (Int.emod_emod_of_dvd _ (Int.dvd_refl _))
theorem u64_sub (a b : Int) : wrap64 (IntKind.u64.wrap (IntKind.u64.wrap a - IntKind.u64.wrap b)) = wrap64 (a - b) := by
  rw [u64_wrap, u64_wrap, u64_wrap, ← Int.sub_emod]
  exact w64_congr (Int.emod_emod_of_dvd _ (Int.dvd_refl _))
theorem u64_mul (a b : Int) : wrap64 (IntKind.u64.wrap (IntKind.u64.wrap a * IntKind.u64.wrap b)) = wrap64 (a * b) := by
  rw [u64_wrap, u64_wrap, u64_wrap, ← Int.mul_emod]
  exact w64_congr (Int.emod_emod_of_dvd _ (Int.dvd_refl _))
theorem refadd_any (a b : Int) (w : World) : Calls Try.prog 16 #[.int .i64 a, .int .i64 b] w fun e w' => e = .returned (.int .i64 (wrap64 (a + b))) ∧ w = w' := by
  go_enter Try.func16, Try.ntmps16
  go_wp2
  go_ret
  exact ⟨congrArg (fun x => Ending.returned (Value.int .i64 x)) (u64_add a b), rfl⟩
theorem refsub_any (a b : Int) (w : World) : Calls Try.prog 18 #[.int .i64 a, .int .i64 b] w fun e w' => e = .returned (.int .i64 (wrap64 (a - b))) ∧ w = w' := by
  go_enter Try.func18, Try.ntmps18
  go_wp2
  go_ret
  exact ⟨congrArg (fun x => Ending.returned (Value.int .i64 x)) (u64_sub a b), rfl⟩
theorem refmul_any (a b : Int) (w : World) : Calls Try.prog 20 #[.int .i64 a, .int .i64 b] w fun e w' => e = .returned (.int .i64 (wrap64 (a * b))) ∧ w = w' := by
  go_enter Try.func20, Try.ntmps20
  go_wp2
  go_ret
  exact ⟨congrArg (fun x => Ending.returned (Value.int .i64 x)) (u64_mul a b), rfl⟩
theorem truth_any (b : Bool) (w : World) : Calls Try.prog 23 #[.bool b] w fun e w' => e = .returned (.int .i64 (oneIf b)) ∧ w = w' := by
  cases b
  · go_enter Try.func23, Try.ntmps23
    go_wp2
    go_ret
    exact ⟨rfl, rfl⟩
  · go_enter Try.func23, Try.ntmps23
    go_wp2
    go_ret
    exact ⟨rfl, rfl⟩

theorem tdiv_minus (a : Int) : wrap64 (-a) = wrap64 (a.tdiv (-1)) := by
  rw [Int.tdiv_neg, Int.tdiv_one]
theorem refdiv_zero (a : Int) (w : World) : Calls Try.prog 10 #[.int .i64 a, .int .i64 0] w fun e w' => e = .returned (.tuple #[.int .i64 0, .int .i64 10]) ∧ w = w' := by
  go_enter Try.func10, Try.ntmps10
  go_wp2
  go_ret2
  exact ⟨rfl, rfl⟩
theorem refdiv_any (a b : Int) (h : (b == 0) = false) (w : World) : Calls Try.prog 10 #[.int .i64 a, .int .i64 b] w fun e w' => e = .returned (.tuple #[.int .i64 (wrap64 (a.tdiv b)), .int .i64 0]) ∧ w = w' := by
  have hb : ¬ b = 0 := by simpa using h
  by_cases h1 : b = -1
  · subst h1
    have E : Hid (wrap64 (-a) = wrap64 (a.tdiv (-1))) := tdiv_minus a
    go_enter Try.func10, Try.ntmps10
    go_wp2_with (go_at_call 18; refine (refsub_any _ _ _).mono ?_; rintro e w' ⟨rfl, rfl⟩)
    go_ret2
    exact ⟨by rw [← E.out]; rfl, rfl⟩
  · have h1' : (b == -1) = false := by simpa using h1
    go_enter Try.func10, Try.ntmps10
    go_wp2
    go_ret2
    exact ⟨rfl, rfl⟩
theorem refrem_zero (a : Int) (w : World) : Calls Try.prog 12 #[.int .i64 a, .int .i64 0] w fun e w' => e = .returned (.tuple #[.int .i64 0, .int .i64 10]) ∧ w = w' := by
  go_enter Try.func12, Try.ntmps12
  go_wp2
  go_ret2
  exact ⟨rfl, rfl⟩
theorem refrem_any (a b : Int) (h : (b == 0) = false) (w : World) : Calls Try.prog 12 #[.int .i64 a, .int .i64 b] w fun e w' => e = .returned (.tuple #[.int .i64 (a.tmod b), .int .i64 0]) ∧ w = w' := by
  have hb : ¬ b = 0 := by simpa using h
  by_cases h1 : b = -1
  · subst h1
    have E : Hid (a.tmod (-1) = 0) := by show a.tmod (-1) = 0; rw [Int.tmod_neg, Int.tmod_one]
    go_enter Try.func12, Try.ntmps12
    go_wp2
    go_ret2
    exact ⟨by rw [E.out]; rfl, rfl⟩
  · have h1' : (b == -1) = false := by simpa using h1
    go_enter Try.func12, Try.ntmps12
    go_wp2
    go_ret2
    exact ⟨rfl, rfl⟩

theorem bstr_size (l : List Nat) : (bstr l).size = l.length := by unfold bstr; simp [ByteArray.size]
theorem bstr_append (l m : List Nat) : bstr l ++ bstr m = bstr (l ++ m) := by
  apply ByteArray.ext
  rw [ByteArray.data_append]
  unfold bstr
  simp
theorem bstr_lit (c : UInt8) (l : List Nat) : ⟨#[c]⟩ ++ bstr l = bstr (c.toNat :: l) := by
  rw [show c.toNat :: l = [c.toNat] ++ l from rfl, ← bstr_append]
  congr 1
  unfold bstr
  simp
theorem conv_one (w : World) (x : Int) (c : Nat) (hx : x = (c : Int)) :
    (convert 41 9 (.slice (some ⟨w.heap.size, 0, none⟩) 1 1)).run Try.prog (w.alloc (.cells #[.int .u8 x] 5)) = .ok (.string (bstr [c])) (w.alloc (.cells #[.int .u8 x] 5)) := by
  subst hx
  rw [run_convert_bytes_arg (P := Try.prog) (w.alloc (.cells #[.int .u8 (c : Int)] 5)) 41 5 Try.underlying41 Try.underlying5 w.heap.size 0 1 1 [(c : Int)] rfl (fun i hi => by
    obtain rfl : i = 0 := by omega
    rw [World.cell?_alloc_at _ _ _ _ rfl]; rfl) 9 Try.underlying9]
  unfold strOfNums bstr
  simp

set_option maxHeartbeats 1000000 in
theorem refprint_any (n : Int) (hn : rng n) (w : World) : Calls Try.prog 26 #[.int .i64 n] w fun e w' => e = .returned (.string (bstr (tx n))) ∧ Grown w w' := by
  by_cases hneg : n < 0
  · have e1 : IntKind.u64.wrap (-IntKind.u64.wrap n) = (n.natAbs : Int) := by
      unfold rng at hn
      rw [u64_wrap, u64_wrap]
      omega
    go_enter Try.func26, Try.ntmps26
    go_wp2
    go_loopw [3, 4] (fun u s wr => ∃ (l : List Nat) (r : Nat), u = .int .u64 (r : Int) ∧ s = .string (bstr l) ∧ Grown w wr ∧ (digs r).map (48 + ·) ++ l = (digs n.natAbs).map (48 + ·)) (fun u _ _ => (intOf u).toNat)
    case atStart => exact ⟨[], n.natAbs, rfl, rfl, Grown.refl _, by simp⟩
    case round =>
      obtain ⟨l, r, rfl, rfl, hg, hd⟩ := hrel
      obtain ⟨hlen, hrb⟩ := left_len hn hd
      have HD : Hid ((digs r).map (48 + ·) ++ l = (digs n.natAbs).map (48 + ·)) := hd
      clear hd
      have hcv := conv_one wr (48 + (r : Int) % 10) (48 + r % 10) (by omega)
      have hs1 : (bstr [48 + r % 10]).size = 1 := rfl
      have hs2 : (bstr l).size ≤ 20 := by rw [bstr_size]; omega
      have hap := bstr_append [48 + r % 10] l
      rw [List.cons_append, List.nil_append] at hap
      by_cases hq : 10 ≤ r
      · have hq' : ((r : Int) / 10 == 0) = false := by rw [beq_eq_false_iff_ne]; omega
        have hd2 : (digs (r / 10)).map (48 + ·) ++ ((48 + r % 10) :: l) = (digs n.natAbs).map (48 + ·) := by
          rw [← HD.out, digs_great (n := r) (by omega)]; simp
        have H2 : Hid ((digs (r / 10)).map (48 + ·) ++ ((48 + r % 10) :: l) = (digs n.natAbs).map (48 + ·)) := hd2
        clear hd2
        go_wp2
        go_roundw
        case rel => exact ⟨(48 + r % 10) :: l, r / 10, by simp, rfl, hg.alloc _ _, H2.out⟩
        case measure => simp [intOf]; omega
      · have hq' : ((r : Int) / 10 == 0) = true := by rw [beq_iff_eq]; omega
        have hd2 : (48 + r % 10) :: l = (digs n.natAbs).map (48 + ·) := by
          rw [← HD.out, digs_small (n := r) (by omega)]; simp; omega
        have HX : Hid (tx n = 45 :: (48 + r % 10) :: l) := by
          show tx n = _
          unfold tx; rw [if_pos hneg, ← hd2]; rfl
        clear hd2
        have hs3 : (bstr ((48 + r % 10) :: l)).size ≤ 21 := by rw [bstr_size, List.length_cons]; omega
        have hap2 := bstr_lit 45 ((48 + r % 10) :: l)
        go_wp2
        go_ret
        exact ⟨by rw [HX.out]; rfl, hg.alloc _ _⟩
  · have e1 : IntKind.u64.wrap n = (n.natAbs : Int) := by
      unfold rng at hn
      rw [u64_wrap]
      omega
    go_enter Try.func26, Try.ntmps26
    go_wp2
    go_loopw [3, 4] (fun u s wr => ∃ (l : List Nat) (r : Nat), u = .int .u64 (r : Int) ∧ s = .string (bstr l) ∧ Grown w wr ∧ (digs r).map (48 + ·) ++ l = (digs n.natAbs).map (48 + ·)) (fun u _ _ => (intOf u).toNat)
    case atStart => exact ⟨[], n.natAbs, rfl, rfl, Grown.refl _, by simp⟩
    case round =>
      obtain ⟨l, r, rfl, rfl, hg, hd⟩ := hrel
      obtain ⟨hlen, hrb⟩ := left_len hn hd
      have HD : Hid ((digs r).map (48 + ·) ++ l = (digs n.natAbs).map (48 + ·)) := hd
      clear hd
      have hcv := conv_one wr (48 + (r : Int) % 10) (48 + r % 10) (by omega)
      have hs1 : (bstr [48 + r % 10]).size = 1 := rfl
      have hs2 : (bstr l).size ≤ 20 := by rw [bstr_size]; omega
      have hap := bstr_append [48 + r % 10] l
      rw [List.cons_append, List.nil_append] at hap
      by_cases hq : 10 ≤ r
      · have hq' : ((r : Int) / 10 == 0) = false := by rw [beq_eq_false_iff_ne]; omega
        have hd2 : (digs (r / 10)).map (48 + ·) ++ ((48 + r % 10) :: l) = (digs n.natAbs).map (48 + ·) := by
          rw [← HD.out, digs_great (n := r) (by omega)]; simp
        have H2 : Hid ((digs (r / 10)).map (48 + ·) ++ ((48 + r % 10) :: l) = (digs n.natAbs).map (48 + ·)) := hd2
        clear hd2
        go_wp2
        go_roundw
        case rel => exact ⟨(48 + r % 10) :: l, r / 10, by simp, rfl, hg.alloc _ _, H2.out⟩
        case measure => simp [intOf]; omega
      · have hq' : ((r : Int) / 10 == 0) = true := by rw [beq_iff_eq]; omega
        have hd2 : (48 + r % 10) :: l = (digs n.natAbs).map (48 + ·) := by
          rw [← HD.out, digs_small (n := r) (by omega)]; simp; omega
        have HX : Hid (tx n = (48 + r % 10) :: l) := by
          show tx n = _
          unfold tx; rw [if_neg (by omega), ← hd2]; rfl
        clear hd2
        have hs3 : (bstr ((48 + r % 10) :: l)).size ≤ 21 := by rw [bstr_size, List.length_cons]; omega
        have hap2 := bstr_lit 45 ((48 + r % 10) :: l)
        go_wp2
        go_ret
        exact ⟨by rw [HX.out]; rfl, hg.alloc _ _⟩
end Go.Proofs.Ytkeadhplijclcaa
