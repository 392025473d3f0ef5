/- Digits are a number. -/
import Derived.Test.YtmpahllkbpofnaaKn
import Derived.Test.YtmpahllkbpofnaaYb
import Derived.Laws.BytesArg
namespace Go.Proofs.Ytmpahllkbpofnaa
open Go.ChangeShapes Go.WideShapes Go.ChangeAt Go.RowKit

theorem dec_from : ∀ (l : List Nat) (a : Nat), l.foldl (fun n c => 10 * n + (c - 48)) a = a * 10 ^ l.length + Y.dec l
  | [], a => by simp [Y.dec]
  | c :: l, a => by
    have e : Y.dec (c :: l) = l.foldl (fun n c => 10 * n + (c - 48)) (10 * 0 + (c - 48)) := rfl
    show l.foldl (fun n c => 10 * n + (c - 48)) (10 * a + (c - 48)) = _
    rw [e, dec_from l (10 * a + (c - 48)), dec_from l (10 * 0 + (c - 48)), List.length_cons, Nat.pow_succ, Nat.add_mul, Nat.add_mul]
    have : 10 * a * 10 ^ l.length = a * (10 ^ l.length * 10) := by rw [Nat.mul_comm 10 a, Nat.mul_assoc, Nat.mul_comm 10 (10 ^ l.length)]
    omega
theorem dec_cons (c : Nat) (l : List Nat) : Y.dec (c :: l) = (c - 48) * 10 ^ l.length + Y.dec l := by
  have := dec_from l (c - 48)
  unfold Y.dec
  rw [List.foldl_cons]
  rw [show 10 * 0 + (c - 48) = c - 48 by omega, this]
  rfl

/-- A number that is printed: what is left, and what stands already. -/
def PrInv (n r : Nat) (l : List Nat) : Prop := (∀ c ∈ l, digitB c = true) ∧ r * 10 ^ l.length + Y.dec l = n ∧ (l = [] ∨ 0 < r) ∧ n < 9223372036854775808
theorem PrInv.len {n r : Nat} {l : List Nat} (h : PrInv n r l) : l.length ≤ 18 ∧ r ≤ n := by
  obtain ⟨h1, h2, h3, h4⟩ := h
  constructor
  · rcases h3 with rfl | h3
    · simp
    · have e : 10 ^ l.length ≤ r * 10 ^ l.length := Nat.le_mul_of_pos_left _ h3
      have e2 : 10 ^ l.length < 10 ^ 19 := by omega
      have := (Nat.pow_lt_pow_iff_right (by omega : 1 < 10)).1 e2
      omega
  · have : r * 1 ≤ r * 10 ^ l.length := Nat.mul_le_mul_left r (Nat.one_le_iff_ne_zero.2 (Nat.pos_iff_ne_zero.1 (Nat.pow_pos (by omega))))
    omega
theorem PrInv.step {n r : Nat} {l : List Nat} (h : PrInv n r l) : (∀ c ∈ (48 + r % 10) :: l, digitB c = true) ∧ (r / 10) * 10 ^ ((48 + r % 10) :: l).length + Y.dec ((48 + r % 10) :: l) = n := by
  obtain ⟨h1, h2, h3, h4⟩ := h
  refine ⟨fun c hc => ?_, ?_⟩
  · rcases List.mem_cons.1 hc with rfl | hc
    · unfold digitB
      rw [decide_eq_true_eq]
      omega
    · exact h1 c hc
  · rw [dec_cons, List.length_cons, Nat.pow_succ, Nat.add_sub_cancel_left, ← h2]
    have e : r = 10 * (r / 10) + r % 10 := (Nat.div_add_mod r 10).symm
    have : r * 10 ^ l.length = (r / 10) * (10 ^ l.length * 10) + r % 10 * 10 ^ l.length := by
      conv => lhs; rw [e, Nat.add_mul]
      rw [Nat.mul_comm 10 (r / 10), Nat.mul_assoc, Nat.mul_comm 10 (10 ^ l.length)]
    omega

theorem conv_one (w : World) (x : Int) (c : Nat) (hx : x = (c : Int)) :
    (convert 40 9 (.slice (some ⟨w.heap.size, 0, none⟩) 1 1)).run Try.prog (w.alloc (.cells #[.int .u8 x] 5)) = .ok (.string (Y.bytes [c])) (w.alloc (.cells #[.int .u8 x] 5)) := by
  subst hx
  rw [run_convert_bytes_arg (P := Try.prog) (w.alloc (.cells #[.int .u8 (c : Int)] 5)) 40 5 Try.underlying40 Try.underlying5 w.heap.size 0 1 1 [(c : Int)] rfl (fun i hi => by
    obtain rfl : i = 0 := by omega
    rw [World.cell?_alloc_at _ _ _ _ rfl]; rfl) 9 Try.underlying9]
  unfold strOfNums Y.bytes
  simp

set_option maxRecDepth 100000 in
set_option maxHeartbeats 4000000 in
theorem numPrint (w : World) (n : Nat) (hn : n < 9223372036854775808) : Calls Try.prog 16 #[.int .i64 (n : Int)] w fun e w' => ∃ d, e = .returned (.string (Y.bytes d)) ∧ Hid ((∀ c ∈ d, digitB c = true) ∧ d ≠ [] ∧ d.length ≤ 19 ∧ Y.dec d = n) ∧ Fr no w w' := by
  have e1 : IntKind.u64.wrap (n : Int) = (n : Int) := by simp [IntKind.wrap, IntKind.signed, IntKind.bits]; omega
  have hneg : ¬ (n : Int) < 0 := by omega
  go_enter Try.func16, Try.ntmps16
  go_wp2_with fail
  go_loopw [3, 4] (fun u s wr => ∃ (l : List Nat) (r : Nat), u = .int .u64 (r : Int) ∧ s = .string (Y.bytes l) ∧ Fr no w wr ∧ Hid (PrInv n r l)) (fun u _ _ => (intOf u).toNat)
  case atStart => exact ⟨[], n, rfl, rfl, Fr.refl _ _, ⟨by simp, by simp [Y.dec], .inl rfl, hn⟩⟩
  case round =>
    obtain ⟨l, r, rfl, rfl, hF, HI⟩ := hrel
    obtain ⟨hl, hr⟩ := HI.out.len
    have hrb : (r : Int) ≤ 9223372036854775807 := by omega
    have hcv := conv_one wr (48 + (r : Int) % 10) (48 + r % 10) (by omega)
    have hs1 : (Y.bytes [48 + r % 10]).size = 1 := rfl
    have hs2 : (Y.bytes l).size ≤ 20 := by rw [Y.size_bytes]; omega
    have hap := Y.bytes_app [48 + r % 10] l
    rw [List.cons_append, List.nil_append] at hap
    have hap' := hap.symm
    clear hap
    have HF : Hid (Fr no w wr) := hF
    clear hF
    by_cases hq : 10 ≤ r
    · have hq' : ((r : Int) / 10 == 0) = false := by rw [beq_eq_false_iff_ne]; omega
      have H2 : Hid (PrInv n (r / 10) ((48 + r % 10) :: l)) := ⟨HI.out.step.1, HI.out.step.2, .inr (by omega), HI.out.2.2.2⟩
      clear hl hr
      go_wp2_with fail
      go_roundw
      case rel => exact ⟨(48 + r % 10) :: l, r / 10, by simp, rfl, HF.out.alloc _ _, H2.out⟩
      case measure => simp [intOf]; omega
    · have hq' : ((r : Int) / 10 == 0) = true := by rw [beq_iff_eq]; omega
      have hz : r / 10 = 0 := by omega
      have H2 : Hid ((∀ c ∈ (48 + r % 10) :: l, digitB c = true) ∧ (48 + r % 10) :: l ≠ [] ∧ ((48 + r % 10) :: l).length ≤ 19 ∧ Y.dec ((48 + r % 10) :: l) = n) := by
        have h := HI.out.step
        rw [hz, Nat.zero_mul, Nat.zero_add] at h
        exact ⟨h.1, by simp, by rw [List.length_cons]; omega, h.2⟩
      clear hl hr hz
      go_wp2_with fail
      go_ret
      exact ⟨(48 + r % 10) :: l, rfl, H2.out, HF.out.alloc _ _⟩
end Go.Proofs.Ytmpahllkbpofnaa
