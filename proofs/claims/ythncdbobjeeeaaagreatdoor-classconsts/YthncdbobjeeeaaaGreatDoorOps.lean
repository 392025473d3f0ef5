/- The program's tables, and what its questions about an op answer: its operand, whether it is one, whether it stops, jumps or may fault; and the document's. -/
import Derived.Test.YthncdbobjeeeaaaGreatDoorFace
namespace Go.Proofs.YthncdbobjeeeaaaGreatDoor
open Go.ChangeShapes Go.WideShapes Go.ChangeAt Go.RowKit

def opds : List Int := [0, 2, 2, 0, 1, 1, 0, 0, 0, 0, 0, 0, 0, 0, 0, 0, 0, 0, 0, 0, 0, 0, 3, 3, 3, 2, 2, 2, 0, 0, 0, 0, 2, 0, 0, 0, 2, 2, 1, 1, 0, 0, 0, 2, 0, 0, 0, 0]
def trts : List Int := [0, 0, 0, 0, 0, 0, 0, 0, 0, 0, 0, 4, 4, 0, 0, 0, 0, 0, 0, 0, 0, 0, 3, 2, 2, 4, 4, 4, 4, 4, 4, 4, 4, 1, 1, 5, 4, 0, 4, 0, 4, 4, 4, 4, 4, 0, 0, 0]

def opd (n : Nat) : Int := opds.getD n 0
def trt (n : Nat) : Int := trts.getD n 0

/-- The tables of operands. -/
structure Tb (w : World) : Prop where
  op : ∀ n, n < 48 → w.cell? ⟨1, n, none⟩ = some (.int .i8 (opd n))

/-- The table of what an op does. -/
def Tr (w : World) : Prop := ∀ n, n < 48 → w.cell? ⟨2, n, none⟩ = some (.int .u8 (trt n))

theorem Tb.kept {w w' : World} (h : Tb w) (hf : Fr no w w') : Tb w' :=
  ⟨fun n hn => hf.cell (h.op n hn) (fun f => f)⟩
theorem Tr.kept {w w' : World} (h : Tr w) (hf : Fr no w w') : Tr w' := fun n hn => hf.cell (h n hn) (fun f => f)

theorem opd_bounds (n : Nat) (h : n < 48) : 0 ≤ opd n ∧ opd n ≤ 3 := by
  have key : ∀ d : Fin 48, 0 ≤ opd d.val ∧ opd d.val ≤ 3 := by decide +kernel
  exact key ⟨n, h⟩
theorem trt_bounds (n : Nat) (h : n < 48) : 0 ≤ trt n ∧ trt n ≤ 5 := by
  have key : ∀ d : Fin 48, 0 ≤ trt d.val ∧ trt d.val ≤ 5 := by decide +kernel
  exact key ⟨n, h⟩

/-- What the operand of an op is. -/
def od (op : Int) : Int := if 0 ≤ op ∧ op < 48 then opd op.toNat else -1

theorem od_in (n : Nat) (h : n < 48) : od (n : Int) = opd n := by unfold od; rw [if_pos (by omega)]; simp
theorem od_out (op : Int) (h : ¬ (0 ≤ op ∧ op < 48)) : od op = -1 := by unfold od; rw [if_neg h]

/-- Whether there is such an instruction. -/
def isb (op a : Int) : Bool := decide (od op = 0 ∧ a = 0 ∨ 0 < od op ∧ 0 ≤ a ∧ a ≤ 999)

theorem isop_any (w : World) (op : Int) : Calls Tryz.prog 162 #[.int .i64 op] w fun e w' => e = .returned (.bool (decide (0 ≤ op ∧ op < 48))) ∧ w' = w := by
  by_cases h1 : 0 ≤ op
  · by_cases h2 : op < 48
    · go_enter Tryz.func162, Tryz.ntmps162
      go_wp2_with fail
      go_ret
      exact ⟨by simp [h1, h2], rfl⟩
    · go_enter Tryz.func162, Tryz.ntmps162
      go_wp2_with fail
      go_ret
      exact ⟨by simp [h2], rfl⟩
  · go_enter Tryz.func162, Tryz.ntmps162
    go_wp2_with fail
    go_ret
    exact ⟨by simp; omega, rfl⟩

theorem operand_any (w : World) (h : Tb w) (op : Int) : Calls Tryz.prog 149 #[.int .i64 op] w fun e w' => e = .returned (.int .i64 (od op)) ∧ w' = w := by
  by_cases hr : 0 ≤ op ∧ op < 48
  · obtain ⟨n, rfl⟩ : ∃ n : Nat, op = (n : Int) := ⟨op.toNat, by omega⟩
    have hn : n < 48 := by omega
    have hc := h.op n hn
    have hb := opd_bounds n hn
    have I := isop_any w (n : Int)
    rw [decide_eq_true hr] at I
    rw [od_in n hn]
    generalize opd n = k at *
    clear h hr
    go_enter Tryz.func149, Tryz.ntmps149
    go_wp2_with fail
    refine I.mono ?_
    rintro e w' ⟨rfl, rfl⟩
    go_wp2_with fail
    go_ret
    exact ⟨rfl, rfl⟩
  · have I := isop_any w op
    rw [decide_eq_false hr] at I
    rw [od_out op hr]
    clear h hr
    go_enter Tryz.func149, Tryz.ntmps149
    go_wp2_with fail
    refine I.mono ?_
    rintro e w' ⟨rfl, rfl⟩
    go_wp2_with fail
    go_ret
    exact ⟨rfl, rfl⟩

theorem docOperand_any (w : World) (op : Int) : Calls Tryz.prog 133 #[.int .i64 op] w fun e w' => e = .returned (.int .i64 (od op)) ∧ w' = w := by
  by_cases e4 : op = 4
  · subst e4
    go_enter Tryz.func133, Tryz.ntmps133
    go_wp2_with fail
    go_ret
    exact ⟨rfl, rfl⟩
  by_cases e5 : op = 5
  · subst e5
    go_enter Tryz.func133, Tryz.ntmps133
    go_wp2_with fail
    go_ret
    exact ⟨rfl, rfl⟩
  by_cases e38 : op = 38
  · subst e38
    go_enter Tryz.func133, Tryz.ntmps133
    go_wp2_with fail
    go_ret
    exact ⟨rfl, rfl⟩
  by_cases e39 : op = 39
  · subst e39
    go_enter Tryz.func133, Tryz.ntmps133
    go_wp2_with fail
    go_ret
    exact ⟨rfl, rfl⟩
  by_cases e1 : op = 1
  · subst e1
    go_enter Tryz.func133, Tryz.ntmps133
    go_wp2_with fail
    go_ret
    exact ⟨rfl, rfl⟩
  by_cases e2 : op = 2
  · subst e2
    go_enter Tryz.func133, Tryz.ntmps133
    go_wp2_with fail
    go_ret
    exact ⟨rfl, rfl⟩
  by_cases e25 : op = 25
  · subst e25
    go_enter Tryz.func133, Tryz.ntmps133
    go_wp2_with fail
    go_ret
    exact ⟨rfl, rfl⟩
  by_cases e26 : op = 26
  · subst e26
    go_enter Tryz.func133, Tryz.ntmps133
    go_wp2_with fail
    go_ret
    exact ⟨rfl, rfl⟩
  by_cases e27 : op = 27
  · subst e27
    go_enter Tryz.func133, Tryz.ntmps133
    go_wp2_with fail
    go_ret
    exact ⟨rfl, rfl⟩
  by_cases e32 : op = 32
  · subst e32
    go_enter Tryz.func133, Tryz.ntmps133
    go_wp2_with fail
    go_ret
    exact ⟨rfl, rfl⟩
  by_cases e36 : op = 36
  · subst e36
    go_enter Tryz.func133, Tryz.ntmps133
    go_wp2_with fail
    go_ret
    exact ⟨rfl, rfl⟩
  by_cases e37 : op = 37
  · subst e37
    go_enter Tryz.func133, Tryz.ntmps133
    go_wp2_with fail
    go_ret
    exact ⟨rfl, rfl⟩
  by_cases e43 : op = 43
  · subst e43
    go_enter Tryz.func133, Tryz.ntmps133
    go_wp2_with fail
    go_ret
    exact ⟨rfl, rfl⟩
  by_cases e22 : op = 22
  · subst e22
    go_enter Tryz.func133, Tryz.ntmps133
    go_wp2_with fail
    go_ret
    exact ⟨rfl, rfl⟩
  by_cases e23 : op = 23
  · subst e23
    go_enter Tryz.func133, Tryz.ntmps133
    go_wp2_with fail
    go_ret
    exact ⟨rfl, rfl⟩
  by_cases e24 : op = 24
  · subst e24
    go_enter Tryz.func133, Tryz.ntmps133
    go_wp2_with fail
    go_ret
    exact ⟨rfl, rfl⟩
  have E : od op = if 0 ≤ op ∧ op < 48 then 0 else -1 := by
    by_cases hr : 0 ≤ op ∧ op < 48
    · rw [if_pos hr]
      obtain ⟨n, rfl⟩ : ∃ n : Nat, op = (n : Int) := ⟨op.toNat, by omega⟩
      have hn : n < 48 := by omega
      rw [od_in n hn]
      have key : ∀ d : Fin 48, d.val ∉ [4, 5, 38, 39, 1, 2, 25, 26, 27, 32, 36, 37, 43, 22, 23, 24] → opd d.val = 0 := by decide +kernel
      refine key ⟨n, hn⟩ ?_
      simp only [List.mem_cons, List.not_mem_nil, or_false, not_or]
      omega
    · rw [if_neg hr, od_out op hr]
  have q4 : (op == 4) = false := by simpa using e4
  have q5 : (op == 5) = false := by simpa using e5
  have q38 : (op == 38) = false := by simpa using e38
  have q39 : (op == 39) = false := by simpa using e39
  have q1 : (op == 1) = false := by simpa using e1
  have q2 : (op == 2) = false := by simpa using e2
  have q25 : (op == 25) = false := by simpa using e25
  have q26 : (op == 26) = false := by simpa using e26
  have q27 : (op == 27) = false := by simpa using e27
  have q32 : (op == 32) = false := by simpa using e32
  have q36 : (op == 36) = false := by simpa using e36
  have q37 : (op == 37) = false := by simpa using e37
  have q43 : (op == 43) = false := by simpa using e43
  have q22 : (op == 22) = false := by simpa using e22
  have q23 : (op == 23) = false := by simpa using e23
  have q24 : (op == 24) = false := by simpa using e24
  clear e4 e5 e38 e39 e1 e2 e25 e26 e27 e32 e36 e37 e43 e22 e23 e24
  by_cases h1 : op < 0
  · rw [if_neg (by omega)] at E
    have HE : Hid (od op = -1) := E
    clear E
    go_enter Tryz.func133, Tryz.ntmps133
    go_wp2_with fail
    go_ret
    exact ⟨by rw [HE.out]; rfl, rfl⟩
  · by_cases h2 : 48 ≤ op
    · rw [if_neg (by omega)] at E
      have HE : Hid (od op = -1) := E
      clear E
      go_enter Tryz.func133, Tryz.ntmps133
      go_wp2_with fail
      go_ret
      exact ⟨by rw [HE.out]; rfl, rfl⟩
    · rw [if_pos (by omega)] at E
      have HE : Hid (od op = 0) := E
      clear E
      go_enter Tryz.func133, Tryz.ntmps133
      go_wp2_with fail
      go_ret
      exact ⟨by rw [HE.out]; rfl, rfl⟩
end Go.Proofs.YthncdbobjeeeaaaGreatDoor
