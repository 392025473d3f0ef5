/- Whether there is such an instruction: the program's answer, and the document's. -/
import Derived.Test.YthncdbobjeeeaaaGreatDoorOps
namespace Go.Proofs.YthncdbobjeeeaaaGreatDoor
open Go.ChangeShapes Go.WideShapes Go.ChangeAt Go.RowKit

/-- An instruction, as a value. -/
def ins (op a : Int) : Value := .agg #[.int .i64 op, .int .i64 a]

theorem isb_none (op a : Int) (h : od op = -1) : isb op a = false := by unfold isb; rw [h]; simp
theorem isb_zero (op a : Int) (h : od op = 0) : isb op a = decide (a = 0) := by unfold isb; rw [h]; simp
theorem isb_pos (op a : Int) (h : 0 < od op) : isb op a = decide (0 ≤ a ∧ a ≤ 999) := by
  unfold isb
  have : ¬ od op = 0 := by omega
  simp [this, h]
theorem od_cases (op : Int) : od op = -1 ∨ od op = 0 ∨ (0 < od op ∧ od op ≤ 3) := by
  by_cases h : 0 ≤ op ∧ op < 48
  · obtain ⟨n, rfl⟩ : ∃ n : Nat, op = (n : Int) := ⟨op.toNat, by omega⟩
    rw [od_in n (by omega)]
    have := opd_bounds n (by omega)
    omega
  · exact .inl (od_out op h)

theorem is_any (w : World) (h : Tb w) (op a : Int) : Calls Tryz.prog 145 #[ins op a] w fun e w' => e = .returned (.bool (isb op a)) ∧ Fr no w w' := by
  unfold ins
  have hf : Fr no w (w.alloc (.cells #[.int .i64 op, .int .i64 a] 57)) := (Fr.refl no w).alloc _ _
  have O := operand_any _ (h.kept hf) op
  have HF : Hid (Fr no w (w.alloc (.cells #[.int .i64 op, .int .i64 a] 57))) := hf
  clear h hf
  rcases od_cases op with e | e | ⟨e1, e2⟩
  · rw [isb_none op a e]
    rw [e] at O
    clear e
    go_enter Tryz.func145, Tryz.ntmps145
    go_wp2_with fail
    refine O.mono ?_
    rintro e w' ⟨rfl, rfl⟩
    go_wp2_with fail
    go_ret
    exact ⟨rfl, HF.out⟩
  · have HI : Hid (isb op a = decide (a = 0)) := isb_zero op a e
    rw [e] at O
    clear e
    go_enter Tryz.func145, Tryz.ntmps145
    go_wp2_with fail
    refine O.mono ?_
    rintro e w' ⟨rfl, rfl⟩
    go_wp2_with fail
    go_ret
    rw [HI.out]
    exact ⟨by first | rfl | (simp [BEq.beq]; done), HF.out⟩
  · have q1 : (od op == 0) = false := by simp; omega
    have q2 : (od op == -1) = false := by simp; omega
    have HI : Hid (isb op a = decide (0 ≤ a ∧ a ≤ 999)) := isb_pos op a e1
    generalize od op = k at *
    clear e1 e2
    by_cases h1 : 0 ≤ a
    · by_cases h2 : a ≤ 999
      · go_enter Tryz.func145, Tryz.ntmps145
        go_wp2_with fail
        refine O.mono ?_
        rintro e w' ⟨rfl, rfl⟩
        go_wp2_with fail
        go_ret
        rw [HI.out]
        exact ⟨by simp [h1, h2], HF.out⟩
      · go_enter Tryz.func145, Tryz.ntmps145
        go_wp2_with fail
        refine O.mono ?_
        rintro e w' ⟨rfl, rfl⟩
        go_wp2_with fail
        go_ret
        rw [HI.out]
        exact ⟨by simp; omega, HF.out⟩
    · go_enter Tryz.func145, Tryz.ntmps145
      go_wp2_with fail
      refine O.mono ?_
      rintro e w' ⟨rfl, rfl⟩
      go_wp2_with fail
      go_ret
      rw [HI.out]
      exact ⟨by simp; omega, HF.out⟩

theorem docIs_any (w : World) (op a : Int) : Calls Tryz.prog 141 #[ins op a] w fun e w' => e = .returned (.bool (isb op a)) ∧ Fr no w w' := by
  unfold ins
  have hf : Fr no w (w.alloc (.cells #[.int .i64 op, .int .i64 a] 57)) := (Fr.refl no w).alloc _ _
  have O := docOperand_any (w.alloc (.cells #[.int .i64 op, .int .i64 a] 57)) op
  have HF : Hid (Fr no w (w.alloc (.cells #[.int .i64 op, .int .i64 a] 57))) := hf
  clear hf
  rcases od_cases op with e | e | ⟨e1, e2⟩
  · rw [isb_none op a e]
    rw [e] at O
    clear e
    go_enter Tryz.func141, Tryz.ntmps141
    go_wp2_with fail
    refine O.mono ?_
    rintro e w' ⟨rfl, rfl⟩
    go_wp2_with fail
    go_ret
    exact ⟨rfl, HF.out⟩
  · have HI : Hid (isb op a = decide (a = 0)) := isb_zero op a e
    rw [e] at O
    clear e
    by_cases h0 : a = 0
    · subst h0
      go_enter Tryz.func141, Tryz.ntmps141
      go_wp2_with fail
      refine O.mono ?_
      rintro e w' ⟨rfl, rfl⟩
      go_wp2_with fail
      go_ret
      rw [HI.out]
      exact ⟨rfl, HF.out⟩
    · have q0 : (a == 0) = false := by simpa using h0
      go_enter Tryz.func141, Tryz.ntmps141
      go_wp2_with fail
      refine O.mono ?_
      rintro e w' ⟨rfl, rfl⟩
      go_wp2_with fail
      go_ret
      rw [HI.out]
      exact ⟨by simp [h0], HF.out⟩
  · have q1 : (od op == 0) = false := by simp; omega
    have HI : Hid (isb op a = decide (0 ≤ a ∧ a ≤ 999)) := isb_pos op a e1
    generalize od op = k at *
    by_cases h1 : 0 ≤ a
    · by_cases h2 : a ≤ 999
      · go_enter Tryz.func141, Tryz.ntmps141
        go_wp2_with fail
        refine O.mono ?_
        rintro e w' ⟨rfl, rfl⟩
        go_wp2_with fail
        go_ret
        rw [HI.out]
        exact ⟨by simp [h1, h2], HF.out⟩
      · go_enter Tryz.func141, Tryz.ntmps141
        go_wp2_with fail
        refine O.mono ?_
        rintro e w' ⟨rfl, rfl⟩
        go_wp2_with fail
        go_ret
        rw [HI.out]
        exact ⟨by simp; omega, HF.out⟩
    · go_enter Tryz.func141, Tryz.ntmps141
      go_wp2_with fail
      refine O.mono ?_
      rintro e w' ⟨rfl, rfl⟩
      go_wp2_with fail
      go_ret
      rw [HI.out]
      exact ⟨by simp; omega, HF.out⟩
end Go.Proofs.YthncdbobjeeeaaaGreatDoor
