/- Whether an op stops, jumps or may fault: the program's answers, and the document's. -/
import Derived.Test.YthncdbobjeeeaaaGreatDoorAsks
namespace Go.Proofs.YthncdbobjeeeaaaGreatDoor
open Go.ChangeShapes Go.WideShapes Go.ChangeAt Go.RowKit

/-- Whether an op does that. -/
def has (op t : Int) : Bool := decide (0 ≤ op ∧ op < 48) && !(bits .and .u8 (trt op.toNat) t == 0)

theorem has_out (op t : Int) (h : ¬ (0 ≤ op ∧ op < 48)) : has op t = false := by unfold has; rw [decide_eq_false h]; rfl
theorem has_in (n : Nat) (t : Int) (h : n < 48) : has (n : Int) t = !(bits .and .u8 (trt n) t == 0) := by
  unfold has
  rw [decide_eq_true (by omega)]
  simp

set_option maxRecDepth 100000 in
theorem does_any (w : World) (h : Tr w) (op t : Int) : Calls Tryz.prog 152 #[.int .i64 op, .int .u8 t] w fun e w' => e = .returned (.bool (has op t)) ∧ w' = w := by
  by_cases hr : 0 ≤ op ∧ op < 48
  · obtain ⟨n, rfl⟩ : ∃ n : Nat, op = (n : Int) := ⟨op.toNat, by omega⟩
    have hn : n < 48 := by omega
    have hc := h n hn
    have I := isop_any w (n : Int)
    rw [decide_eq_true hr] at I
    have HI : Hid (has (n : Int) t = !(bits .and .u8 (trt n) t == 0)) := has_in n t hn
    generalize trt n = k at *
    clear h hr
    go_enter Tryz.func152, Tryz.ntmps152
    go_wp2_with fail
    refine I.mono ?_
    rintro e w' ⟨rfl, rfl⟩
    go_wp2_with fail
    go_ret
    exact ⟨by rw [HI.out]; rfl, rfl⟩
  · have I := isop_any w op
    rw [decide_eq_false hr] at I
    rw [has_out op t hr]
    clear h hr
    go_enter Tryz.func152, Tryz.ntmps152
    go_wp2_with fail
    refine I.mono ?_
    rintro e w' ⟨rfl, rfl⟩
    go_wp2_with fail
    go_ret
    exact ⟨rfl, rfl⟩

theorem stops_any (w : World) (h : Tr w) (op : Int) : Calls Tryz.prog 114 #[.int .i64 op] w fun e w' => e = .returned (.bool (has op 1)) ∧ w' = w := by
  have D := does_any w h op 1
  go_enter Tryz.func114, Tryz.ntmps114
  go_wp2_with fail
  refine D.mono ?_
  rintro e w' ⟨rfl, rfl⟩
  go_wp2_with fail
  go_ret
  exact ⟨rfl, rfl⟩

theorem docStops_any (w : World) (op : Int) : Calls Tryz.prog 164 #[.int .i64 op] w fun e w' => e = .returned (.bool (has op 1)) ∧ w' = w := by
  by_cases e22 : op = 22
  · subst e22
    go_enter Tryz.func164, Tryz.ntmps164
    go_wp2_with fail
    go_ret
    exact ⟨rfl, rfl⟩
  by_cases e33 : op = 33
  · subst e33
    go_enter Tryz.func164, Tryz.ntmps164
    go_wp2_with fail
    go_ret
    exact ⟨rfl, rfl⟩
  by_cases e34 : op = 34
  · subst e34
    go_enter Tryz.func164, Tryz.ntmps164
    go_wp2_with fail
    go_ret
    exact ⟨rfl, rfl⟩
  by_cases e35 : op = 35
  · subst e35
    go_enter Tryz.func164, Tryz.ntmps164
    go_wp2_with fail
    go_ret
    exact ⟨rfl, rfl⟩
  have HE : Hid (has op 1 = false) := by
    show _ = _
    by_cases hr : 0 ≤ op ∧ op < 48
    · obtain ⟨n, rfl⟩ : ∃ n : Nat, op = (n : Int) := ⟨op.toNat, by omega⟩
      have hn : n < 48 := by omega
      rw [has_in n 1 hn]
      have key : ∀ d : Fin 48, d.val ∉ [22, 33, 34, 35] → (!(bits .and .u8 (trt d.val) 1 == 0)) = false := by decide +kernel
      refine key ⟨n, hn⟩ ?_
      simp only [List.mem_cons, List.not_mem_nil, or_false, not_or]
      omega
    · exact has_out op 1 hr
  have q22 : (op == 22) = false := by simpa using e22
  have q33 : (op == 33) = false := by simpa using e33
  have q34 : (op == 34) = false := by simpa using e34
  have q35 : (op == 35) = false := by simpa using e35
  clear e22 e33 e34 e35
  go_enter Tryz.func164, Tryz.ntmps164
  go_wp2_with fail
  go_ret
  exact ⟨by rw [HE.out]; rfl, rfl⟩
end Go.Proofs.YthncdbobjeeeaaaGreatDoor
