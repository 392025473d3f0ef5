/- The program's tables, and what its questions about an op answer: its operand, whether it is one, whether it stops, jumps or may fault; and the document's. -/
import Derived.Test.YthncdbobjeeeaaaGreatDoorGb
namespace Go.Proofs.YthncdbobjeeeaaaGreatDoor
open Go.ChangeShapes Go.WideShapes Go.ChangeAt Go.RowKit

def opds : List Int := [0, 2, 2, 0, 1, 1, 0, 0, 0, 0, 0, 0, 0, 0, 0, 0, 0, 0, 0, 0, 0, 0, 3, 3, 3, 2, 2, 2, 0, 0, 0, 0, 2, 0, 0, 0, 2, 2, 1, 1, 0, 0, 0, 2, 0, 0, 0, 0]
def trts : List Int := [0, 0, 0, 0, 0, 0, 0, 0, 0, 0, 0, 4, 4, 0, 0, 0, 0, 0, 0, 0, 0, 0, 3, 2, 2, 4, 4, 4, 4, 4, 4, 4, 4, 1, 1, 5, 4, 0, 4, 0, 4, 4, 4, 4, 4, 0, 0, 0]

def opd (n : Nat) : Int := opds.getD n 0
def trt (n : Nat) : Int := trts.getD n 0

/-- The tables of operands. -/
structure Tb (w : World) : Prop where
  op : ∀ n, n < 48 → w.cell? ⟨1, n, none⟩ = some (.int .i8 (opd n))

/-- The table of what an op does. -/
def Tr (w : World) : Prop := ∀ n, n < 48 → w.cell? ⟨2, n, none⟩ = some (.int .u8 (trt n))

theorem Tb.kept {w w' : World} (h : Tb w) (hf : Fr no w w') : Tb w' :=
  ⟨fun n hn => hf.cell (h.op n hn) (fun f => f)⟩
theorem Tr.kept {w w' : World} (h : Tr w) (hf : Fr no w w') : Tr w' := fun n hn => hf.cell (h n hn) (fun f => f)

theorem opd_bounds (n : Nat) (h : n < 48) : 0 ≤ opd n ∧ opd n ≤ 3 := by
  have key : ∀ d : Fin 48, 0 ≤ opd d.val ∧ opd d.val ≤ 3 := by decide +kernel
  exact key ⟨n, h⟩
theorem trt_bounds (n : Nat) (h : n < 48) : 0 ≤ trt n ∧ trt n ≤ 5 := by
  have key : ∀ d : Fin 48, 0 ≤ trt d.val ∧ trt d.val ≤ 5 := by decide +kernel
  exact key ⟨n, h⟩

/-- What the operand of an op is. -/
def od (op : Int) : Int := if 0 ≤ op ∧ op < 48 then opd op.toNat else -1

theorem od_in (n : Nat) (h : n < 48) : od (n : Int) = opd n := by unfold od; rw [if_pos (by omega)]; simp
theorem od_out (op : Int) (h : ¬ (0 ≤ op ∧ op < 48)) : od op = -1 := by unfold od; rw [if_neg h]

/-- Whether there is such an instruction. -/
def isb (op a : Int) : Bool := decide (od op = 0 ∧ a = 0 ∨ 0 < od op ∧ 0 ≤ a ∧ a ≤ 999)

theorem isop_any (w : World) (op : Int) : Calls Tryz.prog 162 #[.int .i64 op] w fun e w' => e = .returned (.bool (decide (0 ≤ op ∧ op < 48))) ∧ w' = w := by
  by_cases h1 : 0 ≤ op
  · by_cases h2 : op < 48
    · go_enter Tryz.func162, Tryz.ntmps162
      go_wp2_with fail
      go_ret
      exact ⟨by simp [h1, h2], rfl⟩
    · go_enter Tryz.func162, Tryz.ntmps162
      go_wp2_with fail
      go_ret
      exact ⟨by simp [h2], rfl⟩
  · go_enter Tryz.func162, Tryz.ntmps162
    go_wp2_with fail
    go_ret
    exact ⟨by simp; omega, rfl⟩

theorem operand_any (w : World) (h : Tb w) (op : Int) : Calls Tryz.prog 149 #[.int .i64 op] w fun e w' => e = .returned (.int .i64 (od op)) ∧ w' = w := by
  by_cases hr : 0 ≤ op ∧ op < 48
  · obtain ⟨n, rfl⟩ : ∃ n : Nat, op = (n : Int) := ⟨op.toNat, by omega⟩
    have hn : n < 48 := by omega
    have hc := h.op n hn
    have hb := opd_bounds n hn
    have I := isop_any w (n : Int)
    rw [decide_eq_true hr] at I
    rw [od_in n hn]
    generalize opd n = k at *
    clear h hr
    go_enter Tryz.func149, Tryz.ntmps149
    go_wp2_with fail
    refine I.mono ?_
    rintro e w' ⟨rfl, rfl⟩
    go_wp2_with fail
    go_ret
    exact ⟨rfl, rfl⟩
  · have I := isop_any w op
    rw [decide_eq_false hr] at I
    rw [od_out op hr]
    clear h hr
    go_enter Tryz.func149, Tryz.ntmps149
    go_wp2_with fail
    refine I.mono ?_
    rintro e w' ⟨rfl, rfl⟩
    go_wp2_with fail
    go_ret
    exact ⟨rfl, rfl⟩

theorem docOperand_any (w : World) (op : Int) : Calls Tryz.prog 133 #[.int .i64 op] w fun e w' => e = .returned (.int .i64 (od op)) ∧ w' = w := by
  by_cases e4 : op = 4
  · subst e4
    go_enter Tryz.func133, Tryz.ntmps133
    go_wp2_with fail
    go_ret
    exact ⟨rfl, rfl⟩
  by_cases e5 : op = 5
  · subst e5
    go_enter Tryz.func133, Tryz.ntmps133
    go_wp2_with fail
    go_ret
    exact ⟨rfl, rfl⟩
  by_cases e38 : op = 38
  · subst e38
    go_enter Tryz.func133, Tryz.ntmps133
    go_wp2_with fail
    go_ret
    exact ⟨rfl, rfl⟩
  by_cases e39 : op = 39
  · subst e39
    go_enter Tryz.func133, Tryz.ntmps133
    go_wp2_with fail
    go_ret
    exact ⟨rfl, rfl⟩
  by_cases e1 : op = 1
  · subst e1
    go_enter Tryz.func133, Tryz.ntmps133
    go_wp2_with fail
    go_ret
    exact ⟨rfl, rfl⟩
  by_cases e2 : op = 2
  · subst e2
    go_enter Tryz.func133, Tryz.ntmps133
    go_wp2_with fail
    go_ret
    exact ⟨rfl, rfl⟩
  by_cases e25 : op = 25
  · subst e25
    go_enter Tryz.func133, Tryz.ntmps133
    go_wp2_with fail
    go_ret
    exact ⟨rfl, rfl⟩
  by_cases e26 : op = 26
  · subst e26
    go_enter Tryz.func133, Tryz.ntmps133
    go_wp2_with fail
    go_ret
    exact ⟨rfl, rfl⟩
  by_cases e27 : op = 27
  · subst e27
    go_enter Tryz.func133, Tryz.ntmps133
    go_wp2_with fail
    go_ret
    exact ⟨rfl, rfl⟩
  by_cases e32 : op = 32
  · subst e32
    go_enter Tryz.func133, Tryz.ntmps133
    go_wp2_with fail
    go_ret
    exact ⟨rfl, rfl⟩
  by_cases e36 : op = 36
  · subst e36
    go_enter Tryz.func133, Tryz.ntmps133
    go_wp2_with fail
    go_ret
    exact ⟨rfl, rfl⟩
  by_cases e37 : op = 37
  · subst e37
    go_enter Tryz.func133, Tryz.ntmps133
    go_wp2_with fail
    go_ret
    exact ⟨rfl, rfl⟩
  by_cases e43 : op = 43
  · subst e43
    go_enter Tryz.func133, Tryz.ntmps133
    go_wp2_with fail
    go_ret
    exact ⟨rfl, rfl⟩
  by_cases e22 : op = 22
  · subst e22
    go_enter Tryz.func133, Tryz.ntmps133
    go_wp2_with fail
    go_ret
    exact ⟨rfl, rfl⟩
  by_cases e23 : op = 23
  · subst e23
    go_enter Tryz.func133, Tryz.ntmps133
    go_wp2_with fail
    go_ret
    exact ⟨rfl, rfl⟩
  by_cases e24 : op = 24
  · subst e24
    go_enter Tryz.func133, Tryz.ntmps133
    go_wp2_with fail
    go_ret
    exact ⟨rfl, rfl⟩
  have E : od op = if 0 ≤ op ∧ op < 48 then 0 else -1 := by
    by_cases hr : 0 ≤ op ∧ op < 48
    · rw [if_pos hr]
      obtain ⟨n, rfl⟩ : ∃ n : Nat, op = (n : Int) := ⟨op.toNat, by omega⟩
      have hn : n < 48 := by omega
      rw [od_in n hn]
      have key : ∀ d : Fin 48, d.val ∉ [4, 5, 38, 39, 1, 2, 25, 26, 27, 32, 36, 37, 43, 22, 23, 24] → opd d.val = 0 := by decide +kernel
      refine key ⟨n, hn⟩ ?_
      simp only [List.mem_cons, List.not_mem_nil, or_false, not_or]
      omega
    · rw [if_neg hr, od_out op hr]
  have q4 : (op == 4) = false := by simpa using e4
  have q5 : (op == 5) = false := by simpa using e5
  have q38 : (op == 38) = false := by simpa using e38
  have q39 : (op == 39) = false := by simpa using e39
  have q1 : (op == 1) = false := by simpa using e1
  have q2 : (op == 2) = false := by simpa using e2
  have q25 : (op == 25) = false := by simpa using e25
  have q26 : (op == 26) = false := by simpa using e26
  have q27 : (op == 27) = false := by simpa using e27
  have q32 : (op == 32) = false := by simpa using e32
  have q36 : (op == 36) = false := by simpa using e36
  have q37 : (op == 37) = false := by simpa using e37
  have q43 : (op == 43) = false := by simpa using e43
  have q22 : (op == 22) = false := by simpa using e22
  have q23 : (op == 23) = false := by simpa using e23
  have q24 : (op == 24) = false := by simpa using e24
  clear e4 e5 e38 e39 e1 e2 e25 e26 e27 e32 e36 e37 e43 e22 e23 e24
  by_cases h1 : op < 0
  · rw [if_neg (by omega)] at E
    have HE : Hid (od op = -1) := E
    clear E
    go_enter Tryz.func133, Tryz.ntmps133
    go_wp2_with fail
    go_ret
    exact ⟨by rw [HE.out]; rfl, rfl⟩
  · by_cases h2 : 48 ≤ op
    · rw [if_neg (by omega)] at E
      have HE : Hid (od op = -1) := E
      clear E
      go_enter Tryz.func133, Tryz.ntmps133
      go_wp2_with fail
      go_ret
      exact ⟨by rw [HE.out]; rfl, rfl⟩
    · rw [if_pos (by omega)] at E
      have HE : Hid (od op = 0) := E
      clear E
      go_enter Tryz.func133, Tryz.ntmps133
      go_wp2_with fail
      go_ret
      exact ⟨by rw [HE.out]; rfl, rfl⟩
end Go.Proofs.YthncdbobjeeeaaaGreatDoor

/- Whether there is such an instruction: the program's answer, and the document's. -/
namespace Go.Proofs.YthncdbobjeeeaaaGreatDoor
open Go.ChangeShapes Go.WideShapes Go.ChangeAt Go.RowKit

/-- An instruction, as a value. -/
def ins (op a : Int) : Value := .agg #[.int .i64 op, .int .i64 a]

theorem isb_none (op a : Int) (h : od op = -1) : isb op a = false := by unfold isb; rw [h]; simp
theorem isb_zero (op a : Int) (h : od op = 0) : isb op a = decide (a = 0) := by unfold isb; rw [h]; simp
theorem isb_pos (op a : Int) (h : 0 < od op) : isb op a = decide (0 ≤ a ∧ a ≤ 999) := by
  unfold isb
  have : ¬ od op = 0 := by omega
  simp [this, h]
theorem od_cases (op : Int) : od op = -1 ∨ od op = 0 ∨ (0 < od op ∧ od op ≤ 3) := by
  by_cases h : 0 ≤ op ∧ op < 48
  · obtain ⟨n, rfl⟩ : ∃ n : Nat, op = (n : Int) := ⟨op.toNat, by omega⟩
    rw [od_in n (by omega)]
    have := opd_bounds n (by omega)
    omega
  · exact .inl (od_out op h)

theorem is_any (w : World) (h : Tb w) (op a : Int) : Calls Tryz.prog 145 #[ins op a] w fun e w' => e = .returned (.bool (isb op a)) ∧ Fr no w w' := by
  unfold ins
  have hf : Fr no w (w.alloc (.cells #[.int .i64 op, .int .i64 a] 57)) := (Fr.refl no w).alloc _ _
  have O := operand_any _ (h.kept hf) op
  have HF : Hid (Fr no w (w.alloc (.cells #[.int .i64 op, .int .i64 a] 57))) := hf
  clear h hf
  rcases od_cases op with e | e | ⟨e1, e2⟩
  · rw [isb_none op a e]
    rw [e] at O
    clear e
    go_enter Tryz.func145, Tryz.ntmps145
    go_wp2_with fail
    refine O.mono ?_
    rintro e w' ⟨rfl, rfl⟩
    go_wp2_with fail
    go_ret
    exact ⟨rfl, HF.out⟩
  · have HI : Hid (isb op a = decide (a = 0)) := isb_zero op a e
    rw [e] at O
    clear e
    go_enter Tryz.func145, Tryz.ntmps145
    go_wp2_with fail
    refine O.mono ?_
    rintro e w' ⟨rfl, rfl⟩
    go_wp2_with fail
    go_ret
    rw [HI.out]
    exact ⟨by first | rfl | (simp [BEq.beq]; done), HF.out⟩
  · have q1 : (od op == 0) = false := by simp; omega
    have q2 : (od op == -1) = false := by simp; omega
    have HI : Hid (isb op a = decide (0 ≤ a ∧ a ≤ 999)) := isb_pos op a e1
    generalize od op = k at *
    clear e1 e2
    by_cases h1 : 0 ≤ a
    · by_cases h2 : a ≤ 999
      · go_enter Tryz.func145, Tryz.ntmps145
        go_wp2_with fail
        refine O.mono ?_
        rintro e w' ⟨rfl, rfl⟩
        go_wp2_with fail
        go_ret
        rw [HI.out]
        exact ⟨by simp [h1, h2], HF.out⟩
      · go_enter Tryz.func145, Tryz.ntmps145
        go_wp2_with fail
        refine O.mono ?_
        rintro e w' ⟨rfl, rfl⟩
        go_wp2_with fail
        go_ret
        rw [HI.out]
        exact ⟨by simp; omega, HF.out⟩
    · go_enter Tryz.func145, Tryz.ntmps145
      go_wp2_with fail
      refine O.mono ?_
      rintro e w' ⟨rfl, rfl⟩
      go_wp2_with fail
      go_ret
      rw [HI.out]
      exact ⟨by simp; omega, HF.out⟩

theorem docIs_any (w : World) (op a : Int) : Calls Tryz.prog 141 #[ins op a] w fun e w' => e = .returned (.bool (isb op a)) ∧ Fr no w w' := by
  unfold ins
  have hf : Fr no w (w.alloc (.cells #[.int .i64 op, .int .i64 a] 57)) := (Fr.refl no w).alloc _ _
  have O := docOperand_any (w.alloc (.cells #[.int .i64 op, .int .i64 a] 57)) op
  have HF : Hid (Fr no w (w.alloc (.cells #[.int .i64 op, .int .i64 a] 57))) := hf
  clear hf
  rcases od_cases op with e | e | ⟨e1, e2⟩
  · rw [isb_none op a e]
    rw [e] at O
    clear e
    go_enter Tryz.func141, Tryz.ntmps141
    go_wp2_with fail
    refine O.mono ?_
    rintro e w' ⟨rfl, rfl⟩
    go_wp2_with fail
    go_ret
    exact ⟨rfl, HF.out⟩
  · have HI : Hid (isb op a = decide (a = 0)) := isb_zero op a e
    rw [e] at O
    clear e
    by_cases h0 : a = 0
    · subst h0
      go_enter Tryz.func141, Tryz.ntmps141
      go_wp2_with fail
      refine O.mono ?_
      rintro e w' ⟨rfl, rfl⟩
      go_wp2_with fail
      go_ret
      rw [HI.out]
      exact ⟨rfl, HF.out⟩
    · have q0 : (a == 0) = false := by simpa using h0
      go_enter Tryz.func141, Tryz.ntmps141
      go_wp2_with fail
      refine O.mono ?_
      rintro e w' ⟨rfl, rfl⟩
      go_wp2_with fail
      go_ret
      rw [HI.out]
      exact ⟨by simp [h0], HF.out⟩
  · have q1 : (od op == 0) = false := by simp; omega
    have HI : Hid (isb op a = decide (0 ≤ a ∧ a ≤ 999)) := isb_pos op a e1
    generalize od op = k at *
    by_cases h1 : 0 ≤ a
    · by_cases h2 : a ≤ 999
      · go_enter Tryz.func141, Tryz.ntmps141
        go_wp2_with fail
        refine O.mono ?_
        rintro e w' ⟨rfl, rfl⟩
        go_wp2_with fail
        go_ret
        rw [HI.out]
        exact ⟨by simp [h1, h2], HF.out⟩
      · go_enter Tryz.func141, Tryz.ntmps141
        go_wp2_with fail
        refine O.mono ?_
        rintro e w' ⟨rfl, rfl⟩
        go_wp2_with fail
        go_ret
        rw [HI.out]
        exact ⟨by simp; omega, HF.out⟩
    · go_enter Tryz.func141, Tryz.ntmps141
      go_wp2_with fail
      refine O.mono ?_
      rintro e w' ⟨rfl, rfl⟩
      go_wp2_with fail
      go_ret
      rw [HI.out]
      exact ⟨by simp; omega, HF.out⟩
end Go.Proofs.YthncdbobjeeeaaaGreatDoor

/- Whether an op stops, jumps or may fault: the program's answers, and the document's. -/
namespace Go.Proofs.YthncdbobjeeeaaaGreatDoor
open Go.ChangeShapes Go.WideShapes Go.ChangeAt Go.RowKit

/-- Whether an op does that. -/
def has (op t : Int) : Bool := decide (0 ≤ op ∧ op < 48) && !(bits .and .u8 (trt op.toNat) t == 0)

theorem has_out (op t : Int) (h : ¬ (0 ≤ op ∧ op < 48)) : has op t = false := by unfold has; rw [decide_eq_false h]; rfl
theorem has_in (n : Nat) (t : Int) (h : n < 48) : has (n : Int) t = !(bits .and .u8 (trt n) t == 0) := by
  unfold has
  rw [decide_eq_true (by omega)]
  simp

set_option maxRecDepth 100000 in
theorem does_any (w : World) (h : Tr w) (op t : Int) : Calls Tryz.prog 152 #[.int .i64 op, .int .u8 t] w fun e w' => e = .returned (.bool (has op t)) ∧ w' = w := by
  by_cases hr : 0 ≤ op ∧ op < 48
  · obtain ⟨n, rfl⟩ : ∃ n : Nat, op = (n : Int) := ⟨op.toNat, by omega⟩
    have hn : n < 48 := by omega
    have hc := h n hn
    have I := isop_any w (n : Int)
    rw [decide_eq_true hr] at I
    have HI : Hid (has (n : Int) t = !(bits .and .u8 (trt n) t == 0)) := has_in n t hn
    generalize trt n = k at *
    clear h hr
    go_enter Tryz.func152, Tryz.ntmps152
    go_wp2_with fail
    refine I.mono ?_
    rintro e w' ⟨rfl, rfl⟩
    go_wp2_with fail
    go_ret
    exact ⟨by rw [HI.out]; rfl, rfl⟩
  · have I := isop_any w op
    rw [decide_eq_false hr] at I
    rw [has_out op t hr]
    clear h hr
    go_enter Tryz.func152, Tryz.ntmps152
    go_wp2_with fail
    refine I.mono ?_
    rintro e w' ⟨rfl, rfl⟩
    go_wp2_with fail
    go_ret
    exact ⟨rfl, rfl⟩

theorem stops_any (w : World) (h : Tr w) (op : Int) : Calls Tryz.prog 114 #[.int .i64 op] w fun e w' => e = .returned (.bool (has op 1)) ∧ w' = w := by
  have D := does_any w h op 1
  go_enter Tryz.func114, Tryz.ntmps114
  go_wp2_with fail
  refine D.mono ?_
  rintro e w' ⟨rfl, rfl⟩
  go_wp2_with fail
  go_ret
  exact ⟨rfl, rfl⟩

theorem docStops_any (w : World) (op : Int) : Calls Tryz.prog 164 #[.int .i64 op] w fun e w' => e = .returned (.bool (has op 1)) ∧ w' = w := by
  by_cases e22 : op = 22
  · subst e22
    go_enter Tryz.func164, Tryz.ntmps164
    go_wp2_with fail
    go_ret
    exact ⟨rfl, rfl⟩
  by_cases e33 : op = 33
  · subst e33
    go_enter Tryz.func164, Tryz.ntmps164
    go_wp2_with fail
    go_ret
    exact ⟨rfl, rfl⟩
  by_cases e34 : op = 34
  · subst e34
    go_enter Tryz.func164, Tryz.ntmps164
    go_wp2_with fail
    go_ret
    exact ⟨rfl, rfl⟩
  by_cases e35 : op = 35
  · subst e35
    go_enter Tryz.func164, Tryz.ntmps164
    go_wp2_with fail
    go_ret
    exact ⟨rfl, rfl⟩
  have HE : Hid (has op 1 = false) := by
    show _ = _
    by_cases hr : 0 ≤ op ∧ op < 48
    · obtain ⟨n, rfl⟩ : ∃ n : Nat, op = (n : Int) := ⟨op.toNat, by omega⟩
      have hn : n < 48 := by omega
      rw [has_in n 1 hn]
      have key : ∀ d : Fin 48, d.val ∉ [22, 33, 34, 35] → (!(bits .and .u8 (trt d.val) 1 == 0)) = false := by decide +kernel
      refine key ⟨n, hn⟩ ?_
      simp only [List.mem_cons, List.not_mem_nil, or_false, not_or]
      omega
    · exact has_out op 1 hr
  have q22 : (op == 22) = false := by simpa using e22
  have q33 : (op == 33) = false := by simpa using e33
  have q34 : (op == 34) = false := by simpa using e34
  have q35 : (op == 35) = false := by simpa using e35
  clear e22 e33 e34 e35
  go_enter Tryz.func164, Tryz.ntmps164
  go_wp2_with fail
  go_ret
  exact ⟨by rw [HE.out]; rfl, rfl⟩
end Go.Proofs.YthncdbobjeeeaaaGreatDoor

/- Slices of instructions that the calls themselves have made: what they hold, and one law on append. -/
namespace Go.Proofs.YthncdbobjeeeaaaGreatDoor
open Go.ChangeShapes Go.WideShapes Go.ChangeAt Go.RowKit

theorem Tryz.info57 : (Tryz.prog.info? 57).map (fun i => (i.zero, i.size, i.bytes)) = some (some (.agg #[.int .i64 0, .int .i64 0]), 2, 16) := by kernel_rfl

/-- The cells of these instructions. -/
def ci : List (Int × Int) → List Value
  | [] => []
  | x :: l => .int .i64 x.1 :: .int .i64 x.2 :: ci l

theorem ci_length (l : List (Int × Int)) : (ci l).length = l.length * 2 := by
  induction l with
  | nil => rfl
  | cons x l ih => simp [ci, ih]; omega

theorem ci_append (l m : List (Int × Int)) : ci l ++ ci m = ci (l ++ m) := by
  induction l with
  | nil => rfl
  | cons x l ih => simp [ci, ih]

theorem ci_get (l : List (Int × Int)) (i : Nat) (x : Int × Int) (h : l[i]? = some x) : (ci l)[i * 2]? = some (.int .i64 x.1) ∧ (ci l)[i * 2 + 1]? = some (.int .i64 x.2) := by
  induction l generalizing i with
  | nil => simp at h
  | cons y l ih =>
    cases i with
    | zero => simp at h; subst h; simp [ci]
    | succ i =>
      have := ih i (by simpa using h)
      simp only [ci]
      rw [show (i + 1) * 2 = i * 2 + 2 by omega, show i * 2 + 2 + 1 = (i * 2 + 1) + 2 by omega]
      simpa using this

theorem ci_one (l : List (Int × Int)) : ∀ u ∈ ci l, u.oneCell' = true := by
  induction l with
  | nil => intro u hu; simp [ci] at hu
  | cons x l ih =>
    intro u hu
    simp only [ci, List.mem_cons] at hu
    rcases hu with rfl | rfl | h
    · rfl
    · rfl
    · exact ih u h

/-- v is nil, or begins at the head of a row of instructions that isn't frozen; they are l; no byte lies there. -/
def OwnI (w : World) (v : Value) (l : List (Int × Int)) : Prop :=
  w.ownsRow 0 57 2 v l.length (ci l) ∧ ∀ (k : Nat) (cur : Array Value) (t : TypeId) (fz : Nat × Nat), v.ownBlock = some k → w.heap[k]? = some (.cells cur t fz) → ∀ u ∈ cur.toList, ∃ z, u = .int .i64 z

theorem OwnI.nil (w : World) : OwnI w (.slice none 0 0) [] := ⟨World.ownsRow_nil _ _ _ _, fun k _ _ _ hk => by simp [Value.ownBlock] at hk⟩

theorem OwnI.lt {w : World} {v : Value} {l : List (Int × Int)} (h : OwnI w v l) {k : Nat} (hk : v.ownBlock = some k) : k < w.heap.size := (World.ownsRow.lt h.1 k hk).2

theorem OwnI.kept {S : Nat → Prop} {w w' : World} {v : Value} {l : List (Int × Int)} (h : OwnI w v l) (hf : Fr S w w') (hS : ∀ k, v.ownBlock = some k → ¬ S k) : OwnI w' v l := by
  refine ⟨⟨h.1.1, ?_⟩, fun k cur t fz hk hc => h.2 k cur t fz hk ((hf.block k (h.lt hk) (hS k hk)).symm.trans hc)⟩
  rcases h.1.2 with hn | ⟨g, cap, cur, rfl, hb, hgg, rest⟩
  · exact .inl hn
  · exact .inr ⟨g, cap, cur, rfl, hb, hf.heap hgg (hS g rfl), rest⟩

theorem OwnI.form {w : World} {v : Value} {l : List (Int × Int)} (h : OwnI w v l) : ∃ o cap, v = .slice o l.length cap := by
  rcases h.1.2 with ⟨rfl, h0⟩ | ⟨g, cap, cur, rfl, _⟩
  · exact ⟨_, _, by rw [h0]⟩
  · exact ⟨_, _, rfl⟩

theorem OwnI.apart {w : World} {v : Value} {l : List (Int × Int)} (h : OwnI w v l) (k : Addr) (c : Int) (hk : w.cell? k = some (.int .u8 c)) : v.ownBlock ≠ some k.block := by
  intro e
  obtain ⟨kb, ko, ke⟩ := k
  unfold World.cell? at hk
  simp only [] at hk e
  cases hg : w.heap[kb]? with
  | none => rw [hg] at hk; simp at hk
  | some o =>
    rw [hg] at hk
    cases o with
    | cells cur t fz =>
      have hm : Value.int .u8 c ∈ cur.toList := by
        cases ke with
        | none => simp at hk; exact Array.mem_toList_iff.2 (Array.mem_of_getElem? hk)
        | some _ => simp at hk
      obtain ⟨z, hz⟩ := h.2 kb cur t fz e hg _ hm
      simp at hz
    | _ => simp at hk

theorem ci_int (l : List (Int × Int)) : ∀ u ∈ ci l, ∃ z, u = Value.int .i64 z := by
  induction l with
  | nil => intro u hu; simp [ci] at hu
  | cons x l ih =>
    intro u hu
    simp only [ci, List.mem_cons] at hu
    rcases hu with rfl | rfl | h
    · exact ⟨_, rfl⟩
    · exact ⟨_, rfl⟩
    · exact ih u h

theorem zero_at (i : Nat) : (#[Value.int .i64 0, Value.int .i64 0] : Array Value)[i % 2]! = .int .i64 0 := by
  rcases Nat.mod_two_eq_zero_or_one i with h | h <;> rw [h] <;> rfl

theorem zero_int (n : Nat) : ∀ u ∈ (Builtin.zeroCells (Value.cells (.agg #[.int .i64 0, .int .i64 0])) n).toList, ∃ z, u = Value.int .i64 z := by
  intro u hu
  unfold Builtin.zeroCells at hu
  simp only [Value.cells, Array.toList_map, List.mem_map] at hu
  obtain ⟨i, _, rfl⟩ := hu
  exact ⟨0, zero_at i⟩

theorem made_int (n : Nat) : ∀ u ∈ (madeCells #[Value.int .i64 0, .int .i64 0] n).toList, ∃ z, u = Value.int .i64 z := by
  intro u hu
  unfold madeCells at hu
  simp only [Array.toList_map, List.mem_map] at hu
  obtain ⟨i, _, rfl⟩ := hu
  exact ⟨0, zero_at i⟩

theorem own_made (w : World) (n : Nat) (h : n ≤ maxLen) : OwnI (w.alloc (.cells (madeCells #[.int .i64 0, .int .i64 0] (n * 2)) 57)) (.slice (some ⟨w.heap.size, 0, none⟩) 0 n) [] := by
  refine ⟨World.ownsRow_made w _ n (Nat.zero_le _) h (size_madeCells _ _), fun k cur t fz hk hc => ?_⟩
  simp only [Value.ownBlock, Option.some.injEq] at hk
  subst hk
  rw [heap_alloc_new] at hc
  simp only [Option.some.injEq, Obj.cells.injEq] at hc
  obtain ⟨rfl, _, _⟩ := hc
  exact made_int _

theorem run_make (w : World) (n : Nat) (h : n ≤ 1000) :
    (Instr.makeSlice 50 (.int .i64 0) (.int .i64 (n : Int))).run Tryz.prog w = .ok (.slice (some ⟨w.heap.size, 0, none⟩) 0 n) (w.alloc (.cells (madeCells #[.int .i64 0, .int .i64 0] (n * 2)) 57)) := by
  obtain ⟨i0, hi, hz0, hz1, hz2⟩ := info_parts Tryz.info57
  have := run_makeSlice (P := Tryz.prog) w 50 57 i0 (.agg #[.int .i64 0, .int .i64 0]) Tryz.underlying50 hi hz0 .i64 .i64 0 (n : Int) (by omega) (by omega) (by rw [hz1]; omega) (by rw [hz2]; omega) (by omega)
  rw [hz1] at this
  simpa [Value.cells] using this

theorem run_apdI (w : World) (v : Value) (l : List (Int × Int)) (hown : OwnI w v l) (x : Value) (m : List (Int × Int)) (hs : Src Tryz.prog 2 50 x m.length (ci m) w)
    (hm0 : m ≠ []) (hb : l.length + m.length ≤ 1099511627776) :
    ∃ v' w', (Builtin.append_ #[50, 50] 50 #[v, x]).run Tryz.prog w = .ok v' w' ∧ OwnI w' v' (l ++ m) ∧ Sp no v w v' w' := by
  obtain ⟨i0, hi, hz0, hz1, hz2⟩ := info_parts Tryz.info57
  have ht := Tryz.underlying50
  have hlen : (ci (l ++ m)).length = (l ++ m).length * 2 := ci_length _
  have grown : ∀ (b : Option Addr) (sCap : Nat), v = .slice b l.length sCap → sCap < l.length + m.length →
      (Builtin.firstCells i0.size l.length (.slice b l.length sCap)).run Tryz.prog w.drew = .ok (ci l).toArray w.drew →
      ∃ v' w', (Builtin.append_ #[50, 50] 50 #[v, x]).run Tryz.prog w = .ok v' w' ∧ OwnI w' v' (l ++ m) ∧ Sp no v w v' w' := by
    intro b sCap hv hlt hold
    subst hv
    have hr := run_append_grow_src (P := Tryz.prog) w 50 50 50 57 i0 (.agg #[.int .i64 0, .int .i64 0]) ht hi hz0 b l.length sCap (ci l) hold x m.length (ci m) (by rw [hz1]; exact hs) hlt (by omega)
      (by rw [hz2]; exact growslice_fits (by omega) (by omega))
    have hge := grownCap_ge w (l.length + m.length) sCap 57
    have hcm : grownCap w (l.length + m.length) sCap 57 ≤ maxLen := grownCap_le_maxLen w _ sCap 57 (by unfold maxLen; omega)
    refine ⟨_, _, hr, ⟨⟨hlen, .inr ⟨w.heap.size, grownCap w (l.length + m.length) sCap 57, _, ?_, Nat.zero_le _, heap_alloc_new w.drew _, ?_, hcm, ?_, ?_⟩⟩, ?_⟩, ?_⟩
    · simp
    · simpa using hge
    · simp only [Array.size_append, List.size_toArray, size_zeroCells, List.length_append, ci_length]
      have : (Value.cells (.agg #[.int .i64 0, .int .i64 0])).size = 2 := rfl
      rw [this]
      omega
    · rw [ci_append, Array.toList_append]
      simp only []
      rw [List.take_append_of_le_length (by rw [ci_length]; omega)]
      exact List.take_of_length_le (by rw [ci_length]; omega)
    · intro k cur t fz hk hc
      simp only [Value.ownBlock, Option.some.injEq] at hk
      subst hk
      have hn := heap_alloc_new w.drew (.cells ((ci l ++ ci m).toArray ++ Builtin.zeroCells (Value.cells (.agg #[.int .i64 0, .int .i64 0])) (grownCap w (l.length + m.length) sCap 57 - (l.length + m.length))) 57)
      rw [show w.drew.heap.size = w.heap.size from rfl] at hn
      rw [hn] at hc
      simp only [Option.some.injEq, Obj.cells.injEq] at hc
      obtain ⟨rfl, _, _⟩ := hc
      intro u hu
      rw [Array.toList_append, List.mem_append, ci_append] at hu
      rcases hu with hu | hu
      · exact ci_int _ u hu
      · exact zero_int _ u hu
    · exact ⟨(Fr.refl _ w).drew.alloc _ _, fun k hk e => by simp [Value.ownBlock] at e; omega⟩
  rcases hown.1.2 with ⟨hv, hl0⟩ | ⟨g, cap, cur, hv, hbg, hg, hnc, hcm, hcs, htake⟩
  · have hl : l = [] := List.eq_nil_of_length_eq_zero hl0
    have hm : 0 < m.length := List.length_pos_iff.2 hm0
    refine grown none 0 (by rw [hv, hl0]) (by omega) ?_
    subst hl
    simpa [ci] using run_firstCells_none (P := Tryz.prog) w.drew i0.size 0 0 0
  · by_cases hroom : l.length + m.length ≤ cap
    · have hint := hown.2 g cur 57 (0, 0) (by rw [hv]; rfl) hg
      subst hv
      have hst := run_storeCells_at Tryz.prog g (l.length * i0.size) 57 (ci m) 0 cur w hg (by rw [hz1, ci_length]; omega) (ci_one m)
      simp only [Nat.add_zero] at hst
      refine ⟨.slice (some ⟨g, 0, none⟩) (l.length + m.length) cap, w.setRow g (cur.toList.take (l.length * i0.size) ++ ci m ++ cur.toList.drop (l.length * i0.size + (ci m).length)).toArray, ?_, ⟨?_, ?_⟩, ?_⟩
      · rcases hs.kind with ⟨e', hk⟩ | hk <;> simp [Builtin.append_, run_underlying ht, sizeOf, typeInfo, hi, hs.len, hroom, hz1, hs.cells, Addr.add_lit] <;> (rw [hz1] at hst; simp at hst; simp [hst])
      · refine ⟨hlen, .inr ⟨g, cap, _, by simp, hbg, setRow_heap w g cur _ 57 _ hg, by simpa using hroom, hcm, ?_, ?_⟩⟩
        · simp only [List.size_toArray, List.length_append, List.length_take, List.length_drop, Array.length_toList, ci_length, hz1]
          omega
        · rw [hz1, htake, ci_append]
          exact List.take_left' (by rw [ci_length])
      · intro k cur' t fz hk hc
        simp only [Value.ownBlock, Option.some.injEq] at hk
        subst hk
        rw [setRow_heap w g cur _ 57 _ hg] at hc
        simp only [Option.some.injEq, Obj.cells.injEq] at hc
        obtain ⟨rfl, _, _⟩ := hc
        intro u hu
        simp only [List.mem_append] at hu
        rcases hu with (hu | hu) | hu
        · exact hint u (List.mem_of_mem_take hu)
        · exact ci_int _ u hu
        · exact hint u (List.mem_of_mem_drop hu)
      · exact ⟨⟨rfl, rfl, by rw [setRow_size]; exact Nat.le_refl _, fun k hk hs => setRow_other w g k _ (fun e => hs (.inr (by simp [Value.ownBlock, e]))), fun a _ => frozen_setRow w g _ a⟩, fun k _ e => by simpa [Value.ownBlock] using e⟩
    · refine grown (some ⟨g, 0, none⟩) cap hv (by omega) ?_
      rw [hz1]
      refine run_firstCells_some (P := Tryz.prog) w.drew 2 l.length ⟨g, 0, none⟩ l.length cap (ci l) (ci_length l) ?_
      intro j u hj
      simpa using World.ownsRow.cells hown.1 (g := g) (by rw [hv]; rfl) j u hj

theorem wpList_apdI (w : World) {ops : Array Oper} {rest : List Oper} {o : Oper} {a : Act} {Q : Exit → Act → World → Prop}
    (hg : o.guard = none) (ht : o.type = 50) (s x : Operand) (hop : o.op = Op.call { callee := Callee.builtin Builtin.append, args := #[s, x], argTypes := #[50, 50] })
    (v : Value) (l : List (Int × Int)) (hs : a.eval s = v) (hown : OwnI w v l) (xv : Value) (hx : a.eval x = xv) (m : List (Int × Int)) (hsrc : Src Tryz.prog 2 50 xv m.length (ci m) w)
    (hm0 : m ≠ []) (hb : l.length + m.length ≤ 1099511627776)
    (hK : ∀ v' w', OwnI w' v' (l ++ m) → Sp no v w v' w' → wpList Tryz.prog ops Q rest (a.put o.dst v') w') :
    wpList Tryz.prog ops Q (o :: rest) a w := by
  refine wpList_plain hg fun K hK' => ?_
  obtain ⟨v', w', hrun, r1, r2⟩ := run_apdI w v l hown xv m hsrc hm0 hb
  unfold Oper.wp
  simp [execOp, hop, ht, resolve, invoke, builtin, hs, hx, hrun, Result.andThen]
  exact hK' _ _ (hK v' w' r1 r2)

theorem src_ins (w : World) (op a : Int) : Src Tryz.prog 2 50 (.slice (some ⟨w.heap.size, 0, none⟩) 1 1) ([(op, a)] : List (Int × Int)).length (ci [(op, a)]) (w.alloc (.cells #[.int .i64 op, .int .i64 a] 57)) :=
  Src.ofSlice _ Tryz.underlying50 _ _ _ _ rfl (fun j u hj => by
    match j, hj with
    | 0, hj => simp [ci] at hj; subst hj; simp [Addr.add]
    | 1, hj => simp [ci] at hj; subst hj; simp [Addr.add]) (ci_one _)

/-- v is a slice whose instructions are l. -/
def SlI (w : World) (v : Value) (l : List (Int × Int)) : Prop :=
  ∃ ad cap, v = .slice ad l.length cap ∧ l.length ≤ cap ∧ cap ≤ maxLen ∧ ∀ (i : Nat) (x : Int × Int), l[i]? = some x → ∃ b off, ad = some ⟨b, off, none⟩ ∧
    w.cell? ⟨b, off + i * 2, none⟩ = some (.int .i64 x.1) ∧ w.cell? ⟨b, off + i * 2 + 1, none⟩ = some (.int .i64 x.2)

theorem SlI.kept {w w' : World} {v : Value} {l : List (Int × Int)} (h : SlI w v l) (hf : Fr no w w') : SlI w' v l := by
  obtain ⟨ad, cap, rfl, h1, h2, h3⟩ := h
  refine ⟨ad, cap, rfl, h1, h2, fun i x hx => ?_⟩
  obtain ⟨b, off, rfl, c0, c1⟩ := h3 i x hx
  exact ⟨b, off, rfl, hf.cell c0 (fun f => f), hf.cell c1 (fun f => f)⟩

theorem OwnI.sl {w : World} {v : Value} {l : List (Int × Int)} (h : OwnI w v l) : SlI w v l := by
  have h' := h.1
  rcases h.1.2 with ⟨rfl, h0⟩ | ⟨g, cap, cur, rfl, hb, hgg, hn, hm, hs, ht⟩
  · have : l = [] := List.eq_nil_of_length_eq_zero h0
    subst this
    exact ⟨none, 0, rfl, Nat.zero_le _, Nat.zero_le _, fun i x hx => by simp at hx⟩
  · refine ⟨_, cap, rfl, hn, hm, fun i x hx => ⟨g, 0, rfl, ?_, ?_⟩⟩
    · have := World.ownsRow.cells h' (g := g) rfl (i * 2) _ (ci_get l i x hx).1
      rw [Addr.add_lit] at this
      exact this
    · have := World.ownsRow.cells h' (g := g) rfl (i * 2 + 1) _ (ci_get l i x hx).2
      rw [Addr.add_lit] at this
      exact this
end Go.Proofs.YthncdbobjeeeaaaGreatDoor

