/- What the reckoning functions of package cplx answer, by the bits of the parts; where a result is a NaN nothing is said of its bits but that it is one. -/
import Derived.Test.YtlehddfefinadaaFloat
namespace Go.Proofs.Ytlehddfefinadaa
open Go.ChangeShapes Go.WideShapes Go.ChangeAt Go.RowKit
open Ieee (double)

theorem grown_trans {a b c : World} (h : Grown a b) (k : Grown b c) : Grown a c :=
  ⟨World.keptBut_trans h.1 k.1, fun x => (k.2.1 x).trans (h.2.1 x), Nat.le_trans h.2.2 k.2.2⟩

theorem run_mul (t : TypeId) (a b : Nat) (w : World) : ∃ r w', Out (double.mul a b) r ∧ Grown w w' ∧ (binOp .mul t (.float .f64 a) (.float .f64 b)).run Try.prog w = .ok (.float .f64 r) w' := by
  cases h : double.mul a b with
  | some r => exact ⟨r, w, out_some r, Grown.refl _, run_float_arith w .mul t .f64 a b r h⟩
  | none =>
    have h' : FloatKind.f64.format.mul a b = none := h
    exact ⟨_, w.drew, out_none (nan_cut a b (w.tape w.drawn (.nanBits .f64 a b))), (Grown.refl _).drew, by simp [binOp, Op.floatArith, h', Question.forced]⟩
theorem run_add (t : TypeId) (a b : Nat) (w : World) : ∃ r w', Out (double.add a b) r ∧ Grown w w' ∧ (binOp .add t (.float .f64 a) (.float .f64 b)).run Try.prog w = .ok (.float .f64 r) w' := by
  cases h : double.add a b with
  | some r => exact ⟨r, w, out_some r, Grown.refl _, run_float_arith w .add t .f64 a b r h⟩
  | none =>
    have h' : FloatKind.f64.format.add a b = none := h
    exact ⟨_, w.drew, out_none (nan_cut a b (w.tape w.drawn (.nanBits .f64 a b))), (Grown.refl _).drew, by simp [binOp, Op.floatArith, h', Question.forced]⟩
theorem run_sub (t : TypeId) (a b : Nat) (w : World) : ∃ r w', Out (double.sub a b) r ∧ Grown w w' ∧ (binOp .sub t (.float .f64 a) (.float .f64 b)).run Try.prog w = .ok (.float .f64 r) w' := by
  cases h : double.sub a b with
  | some r => exact ⟨r, w, out_some r, Grown.refl _, run_float_arith w .sub t .f64 a b r h⟩
  | none =>
    have h' : FloatKind.f64.format.sub a b = none := h
    exact ⟨_, w.drew, out_none (nan_cut a b (w.tape w.drawn (.nanBits .f64 a b))), (Grown.refl _).drew, by simp [binOp, Op.floatArith, h', Question.forced]⟩

theorem times_any (a b : Nat) (w : World) : Calls Try.prog 31 #[.float .f64 a, .float .f64 b] w fun e w' => ∃ r, e = .returned (.float .f64 r) ∧ Out (double.mul a b) r ∧ Grown w w' := by
  obtain ⟨r, w1, ho, hg, hrun⟩ := run_mul 26 a b w
  go_enter Try.func31, Try.ntmps31
  go_wp2
  go_ret
  exact ⟨r, rfl, ho, hg⟩

theorem isnan_any (a : Nat) (w : World) : Calls Try.prog 41 #[.float .f64 a] w fun e w' => e = .returned (.bool (double.order a a != some .eq)) ∧ w = w' := by
  go_enter Try.func41, Try.ntmps41
  go_wp2
  go_ret
  exact ⟨rfl, rfl⟩

theorem run_bits (a : Nat) (w : World) : (callFunc 29 #[.float .f64 a]).run Try.prog w = .ok (.value (.int .u64 (a : Int))) w := by
  rw [run_callFunc_extern (e := Extern.MathFloatBits.float64bits) Try.func29 (by kernel_rfl) (by kernel_rfl) (by kernel_rfl) (by kernel_rfl)]
  rfl
theorem run_from (a : Nat) (w : World) : (callFunc 28 #[.int .u64 (a : Int)]).run Try.prog w = .ok (.value (.float .f64 a)) w := by
  rw [run_callFunc_extern (e := Extern.MathFloatBits.float64frombits) Try.func28 (by kernel_rfl) (by kernel_rfl) (by kernel_rfl) (by kernel_rfl)]
  rfl
theorem run_neg (b : Nat) (w : World) : (Op.unary .neg (.float .f64 b)).run Try.prog w = .ok (.float .f64 (Op.negFloat .f64 b)) w := rfl

theorem bits_any (a b : Nat) (w : World) : Calls Try.prog 35 #[.complex .f64 a b] w fun e w' => e = .returned (.tuple #[.int .u64 (a : Int), .int .u64 (b : Int)]) ∧ w = w' := by
  have hb := run_bits
  go_enter Try.func35, Try.ntmps35
  go_wp2
  go_ret2
  exact ⟨rfl, rfl⟩
theorem of_any (a b : Nat) (w : World) : Calls Try.prog 9 #[.int .u64 (a : Int), .int .u64 (b : Int)] w fun e w' => e = .returned (.complex .f64 a b) ∧ w = w' := by
  have hb := run_from
  go_enter Try.func9, Try.ntmps9
  go_wp2
  go_ret
  exact ⟨rfl, rfl⟩
theorem conj_any (a b : Nat) (w : World) : Calls Try.prog 23 #[.complex .f64 a b] w fun e w' => e = .returned (.complex .f64 a (Op.negFloat .f64 b)) ∧ w = w' := by
  have hb := run_neg
  go_enter Try.func23, Try.ntmps23
  go_wp2
  go_ret
  exact ⟨rfl, rfl⟩

/-- The product's parts. -/
def Prod (a b c d re im : Nat) : Prop := ∃ t1 t2 t3 t4, Out (double.mul a c) t1 ∧ Out (double.mul b d) t2 ∧ Out (double.sub t1 t2) re ∧ Out (double.mul a d) t3 ∧ Out (double.mul b c) t4 ∧ Out (double.add t3 t4) im

theorem mul_any (a b c d : Nat) (w : World) : Calls Try.prog 19 #[.complex .f64 a b, .complex .f64 c d] w fun e w' => ∃ re im, e = .returned (.complex .f64 re im) ∧ Prod a b c d re im ∧ Grown w w' := by
  go_enter Try.func19, Try.ntmps19
  go_wp2_with fail
  refine (times_any _ _ _).mono ?_
  rintro e w1 ⟨t1, rfl, o1, g1⟩
  go_wp2_with fail
  refine (times_any _ _ _).mono ?_
  rintro e w2 ⟨t2, rfl, o2, g2⟩
  obtain ⟨re, w3, o3, g3, e3⟩ := run_sub 26 t1 t2 w2
  go_wp2_with fail
  refine (times_any _ _ _).mono ?_
  rintro e w4 ⟨t3, rfl, o4, g4⟩
  go_wp2_with fail
  refine (times_any _ _ _).mono ?_
  rintro e w5 ⟨t4, rfl, o5, g5⟩
  obtain ⟨im, w6, o6, g6, e6⟩ := run_add 26 t3 t4 w5
  go_wp2
  go_ret
  exact ⟨re, im, rfl, ⟨t1, t2, t3, t4, o1, o2, o3, o4, o5, o6⟩, grown_trans g1 (grown_trans g2 (grown_trans g3 (grown_trans g4 (grown_trans g5 g6))))⟩

def Sums (a b c d re im : Nat) : Prop := Out (double.add a c) re ∧ Out (double.add b d) im
def Diffs (a b c d re im : Nat) : Prop := Out (double.sub a c) re ∧ Out (double.sub b d) im

theorem arith_add (a b : Nat) (w : World) : ∃ r w', Out (double.add a b) r ∧ Grown w w' ∧ (Op.Complex.arith .add .f64 a b).run Try.prog w = .ok r w' := by
  cases h : double.add a b with
  | some r => exact ⟨r, w, out_some r, Grown.refl _, run_carith w h⟩
  | none =>
    have h' : FloatKind.f64.format.add a b = none := h
    exact ⟨_, w.drew, out_none (nan_cut a b (w.tape w.drawn (.nanBits .f64 a b))), (Grown.refl _).drew, by simp [Op.Complex.arith, Op.floatArith, h', Question.forced]⟩
theorem arith_sub (a b : Nat) (w : World) : ∃ r w', Out (double.sub a b) r ∧ Grown w w' ∧ (Op.Complex.arith .sub .f64 a b).run Try.prog w = .ok r w' := by
  cases h : double.sub a b with
  | some r => exact ⟨r, w, out_some r, Grown.refl _, run_carith w h⟩
  | none =>
    have h' : FloatKind.f64.format.sub a b = none := h
    exact ⟨_, w.drew, out_none (nan_cut a b (w.tape w.drawn (.nanBits .f64 a b))), (Grown.refl _).drew, by simp [Op.Complex.arith, Op.floatArith, h', Question.forced]⟩

theorem run_cadd (a b c d : Nat) (w : World) : ∃ re im w', Sums a b c d re im ∧ Grown w w' ∧ (binOp .add 24 (.complex .f64 a b) (.complex .f64 c d)).run Try.prog w = .ok (.complex .f64 re im) w' := by
  obtain ⟨re, w1, o1, g1, e1⟩ := arith_add a c w
  obtain ⟨im, w2, o2, g2, e2⟩ := arith_add b d w1
  exact ⟨re, im, w2, ⟨o1, o2⟩, grown_trans g1 g2, by simp [binOp, Op.complexOp, e1, e2]⟩
theorem run_csub (a b c d : Nat) (w : World) : ∃ re im w', Diffs a b c d re im ∧ Grown w w' ∧ (binOp .sub 24 (.complex .f64 a b) (.complex .f64 c d)).run Try.prog w = .ok (.complex .f64 re im) w' := by
  obtain ⟨re, w1, o1, g1, e1⟩ := arith_sub a c w
  obtain ⟨im, w2, o2, g2, e2⟩ := arith_sub b d w1
  exact ⟨re, im, w2, ⟨o1, o2⟩, grown_trans g1 g2, by simp [binOp, Op.complexOp, e1, e2]⟩

theorem add_any (a b c d : Nat) (w : World) : Calls Try.prog 15 #[.complex .f64 a b, .complex .f64 c d] w fun e w' => ∃ re im, e = .returned (.complex .f64 re im) ∧ Sums a b c d re im ∧ Grown w w' := by
  obtain ⟨re, im, w1, o, g, hrun⟩ := run_cadd a b c d w
  go_enter Try.func15, Try.ntmps15
  go_wp2
  go_ret
  exact ⟨re, im, rfl, o, g⟩
theorem sub_any (a b c d : Nat) (w : World) : Calls Try.prog 17 #[.complex .f64 a b, .complex .f64 c d] w fun e w' => ∃ re im, e = .returned (.complex .f64 re im) ∧ Diffs a b c d re im ∧ Grown w w' := by
  obtain ⟨re, im, w1, o, g, hrun⟩ := run_csub a b c d w
  go_enter Try.func17, Try.ntmps17
  go_wp2
  go_ret
  exact ⟨re, im, rfl, o, g⟩

/-- The norm. -/
def Nrm (a b n : Nat) : Prop := ∃ t1 t2, Out (double.mul a a) t1 ∧ Out (double.mul b b) t2 ∧ Out (double.add t1 t2) n

theorem norm_any (a b : Nat) (w : World) : Calls Try.prog 10 #[.complex .f64 a b] w fun e w' => ∃ n, e = .returned (.float .f64 n) ∧ Nrm a b n ∧ Grown w w' := by
  go_enter Try.func10, Try.ntmps10
  go_wp2_with fail
  refine (times_any _ _ _).mono ?_
  rintro e w1 ⟨t1, rfl, o1, g1⟩
  go_wp2_with fail
  refine (times_any _ _ _).mono ?_
  rintro e w2 ⟨t2, rfl, o2, g2⟩
  obtain ⟨n, w3, o3, g3, e3⟩ := run_add 26 t1 t2 w2
  go_wp2
  go_ret
  exact ⟨n, rfl, ⟨t1, t2, o1, o2, o3⟩, grown_trans g1 (grown_trans g2 g3)⟩

theorem numsame_any (a b : Int) (w : World) : Calls Try.prog 40 #[.int .i64 a, .int .i64 b] w fun e w' => e = .returned (.int .i64 (if a == b then 1 else 0)) ∧ w = w' := by
  by_cases h : (a == b) = true
  · go_enter Try.func40, Try.ntmps40
    go_wp2
    go_ret
    exact ⟨rfl, rfl⟩
  · have h' : (a == b) = false := by simpa using h
    go_enter Try.func40, Try.ntmps40
    go_wp2
    go_ret
    exact ⟨rfl, rfl⟩

theorem wrap_same {a b : Nat} (ha : a < 2 ^ 64) (hb : b < 2 ^ 64) : (wrap64 (a : Int) == wrap64 (b : Int)) = (a == b) := by
  by_cases h : a = b
  · subst h; simp
  · have e1 : (a == b) = false := by simpa using h
    rw [e1, beq_eq_false_iff_ne]
    unfold wrap64
    omega

/-- Whether two parts are alike, as a truth value. -/
def alk (a b : Nat) : Bool := (a == b) || ((double.order a a != some .eq) && (double.order b b != some .eq))

theorem samepart_any (a b : Nat) (ha : a < 2 ^ 64) (hb : b < 2 ^ 64) (w : World) : Calls Try.prog 36 #[.float .f64 a, .float .f64 b] w fun e w' => e = .returned (.bool (alk a b)) ∧ w = w' := by
  have hbits := run_bits
  have hw := wrap_same ha hb
  by_cases h : (a == b) = true
  · have h2 : (wrap64 (a : Int) == wrap64 (b : Int)) = true := by rw [hw, h]
    clear hw
    go_enter Try.func36, Try.ntmps36
    go_wp2_with fail
    refine (numsame_any _ _ _).mono ?_
    rintro e w1 ⟨rfl, rfl⟩
    go_wp2
    go_ret
    exact ⟨by simp [alk, h], rfl⟩
  · have h1 : (a == b) = false := by simpa using h
    have h2 : (wrap64 (a : Int) == wrap64 (b : Int)) = false := by rw [hw, h1]
    clear hw h
    by_cases hn : (double.order a a != some .eq) = true
    · go_enter Try.func36, Try.ntmps36
      go_wp2_with fail
      refine (numsame_any _ _ _).mono ?_
      rintro e w1 ⟨rfl, rfl⟩
      go_wp2_with fail
      refine (isnan_any _ _).mono ?_
      rintro e w1 ⟨rfl, rfl⟩
      go_wp2_with fail
      refine (isnan_any _ _).mono ?_
      rintro e w1 ⟨rfl, rfl⟩
      go_wp2
      go_ret
      exact ⟨by simp [alk, h1, hn], rfl⟩
    · have hn' : (double.order a a != some .eq) = false := by simpa using hn
      go_enter Try.func36, Try.ntmps36
      go_wp2_with fail
      refine (numsame_any _ _ _).mono ?_
      rintro e w1 ⟨rfl, rfl⟩
      go_wp2_with fail
      refine (isnan_any _ _).mono ?_
      rintro e w1 ⟨rfl, rfl⟩
      go_wp2
      go_ret
      exact ⟨by simp [alk, h1, hn'], rfl⟩

theorem same_any (a b c d : Nat) (ha : a < 2 ^ 64) (hb : b < 2 ^ 64) (hc : c < 2 ^ 64) (hd : d < 2 ^ 64) (w : World) : Calls Try.prog 25 #[.complex .f64 a b, .complex .f64 c d] w fun e w' => e = .returned (.bool (alk a c && alk b d)) ∧ w = w' := by
  by_cases h : alk a c = true
  · go_enter Try.func25, Try.ntmps25
    go_wp2_with fail
    refine (samepart_any a c ha hc _).mono ?_
    rintro e w1 ⟨rfl, rfl⟩
    go_wp2_with fail
    refine (samepart_any b d hb hd _).mono ?_
    rintro e w1 ⟨rfl, rfl⟩
    go_wp2
    go_ret
    exact ⟨by simp [h], rfl⟩
  · have h' : alk a c = false := by simpa using h
    clear h
    go_enter Try.func25, Try.ntmps25
    go_wp2_with fail
    refine (samepart_any a c ha hc _).mono ?_
    rintro e w1 ⟨rfl, rfl⟩
    go_wp2
    go_ret
    exact ⟨by simp [h'], rfl⟩

theorem copysign_known (w : World) : Calls Try.prog 30 #[.float .f64 0, .float .f64 13830554455654793216] w fun e w' => e = .returned (.float .f64 9223372036854775808) ∧ w = w' := by
  have hb := run_bits
  have hf : ∀ w, (callFunc 28 #[.int .u64 9223372036854775808]).run Try.prog w = .ok (.value (.float .f64 9223372036854775808)) w := run_from 9223372036854775808
  have h1 : bits .andNot .u64 0 9223372036854775808 = 0 := by decide
  have h2 : bits .and .u64 13830554455654793216 9223372036854775808 = 9223372036854775808 := by decide
  have h3 : bits .or .u64 0 9223372036854775808 = 9223372036854775808 := by decide
  go_enter Try.func30, Try.ntmps30
  go_wp2
  go_ret
  exact ⟨rfl, rfl⟩
end Go.Proofs.Ytlehddfefinadaa
