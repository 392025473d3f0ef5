/- What is asked of instructions and handlers: the program's answers. -/
import Derived.Test.YthncdbobjeeeaaaGreatDoorAsk3
namespace Go.Proofs.YthncdbobjeeeaaaGreatDoor
open Go.ChangeShapes Go.WideShapes Go.ChangeAt Go.RowKit

theorem isConst_any (w : World) (v : Value) (pool : List Cs) (h : SlG elCs w v pool) (a k : Int) : Calls Tryz.prog 150 #[v, .int .i64 a, .int .i64 k] w fun e w' => e = .returned (.bool (isCst pool a k)) ∧ w' = w := by
  obtain ⟨ad, cp, rfl, hcap, hmx, hit⟩ := h
  unfold maxLen at hmx
  by_cases h0 : 0 ≤ a
  · obtain ⟨n, rfl⟩ : ∃ n : Nat, a = (n : Int) := ⟨a.toNat, by omega⟩
    by_cases hlt : n < pool.length
    · obtain ⟨x, hx⟩ : ∃ x, pool[n]? = some x := ⟨_, List.getElem?_eq_getElem hlt⟩
      obtain ⟨b, off, rfl, hc⟩ := hit n x hx
      have c0 : w.cell? ⟨b, off + n * 5, none⟩ = some (.int .i64 x.k) := hc 0 _ rfl
      have hlt' : (n : Int) < (pool.length : Int) := by omega
      have HE : Hid (isCst pool (n : Int) k = decide (x.k = k)) := by
        show _ = _
        unfold isCst
        rw [decide_eq_true h0]
        simp [hx]
      clear hc hit hx
      go_enter Tryz.func150, Tryz.ntmps150
      go_wp2_with fail
      go_ret
      rw [HE.out]
      exact ⟨by first | rfl | (simp [BEq.beq]; done), rfl⟩
    · have hlt' : ¬ (n : Int) < (pool.length : Int) := by omega
      have HE : Hid (isCst pool (n : Int) k = false) := by
        show _ = _
        unfold isCst
        rw [decide_eq_true h0]
        have : pool[n]? = none := List.getElem?_eq_none (by omega)
        simp [this]
      clear hit
      go_enter Tryz.func150, Tryz.ntmps150
      go_wp2_with fail
      go_ret
      rw [HE.out]
      exact ⟨by first | rfl | (simp; omega), rfl⟩
  · have HE : Hid (isCst pool a k = false) := by show _ = _; unfold isCst; rw [decide_eq_false h0]; rfl
    clear hit
    go_enter Tryz.func150, Tryz.ntmps150
    go_wp2_with fail
    go_ret
    rw [HE.out]
    exact ⟨by first | rfl | (simp; omega), rfl⟩

theorem askedKind_any (w : World) (op : Int) : Calls Tryz.prog 151 #[.int .i64 op] w fun e w' => e = .returned (.int .i64 (asked op)) ∧ w' = w := by
  by_cases e1 : op = 1
  · subst e1
    go_enter Tryz.func151, Tryz.ntmps151
    go_wp2_with fail
    go_ret
    exact ⟨rfl, rfl⟩
  by_cases e2 : op = 2
  · subst e2
    go_enter Tryz.func151, Tryz.ntmps151
    go_wp2_with fail
    go_ret
    exact ⟨rfl, rfl⟩
  by_cases e25 : op = 25
  · subst e25
    go_enter Tryz.func151, Tryz.ntmps151
    go_wp2_with fail
    go_ret
    exact ⟨rfl, rfl⟩
  by_cases e36 : op = 36
  · subst e36
    go_enter Tryz.func151, Tryz.ntmps151
    go_wp2_with fail
    go_ret
    exact ⟨rfl, rfl⟩
  by_cases e37 : op = 37
  · subst e37
    go_enter Tryz.func151, Tryz.ntmps151
    go_wp2_with fail
    go_ret
    exact ⟨rfl, rfl⟩
  by_cases e26 : op = 26
  · subst e26
    go_enter Tryz.func151, Tryz.ntmps151
    go_wp2_with fail
    go_ret
    exact ⟨rfl, rfl⟩
  by_cases e27 : op = 27
  · subst e27
    go_enter Tryz.func151, Tryz.ntmps151
    go_wp2_with fail
    go_ret
    exact ⟨rfl, rfl⟩
  have q1 : (op == 1) = false := by simpa using e1
  have q2 : (op == 2) = false := by simpa using e2
  have q25 : (op == 25) = false := by simpa using e25
  have q36 : (op == 36) = false := by simpa using e36
  have q37 : (op == 37) = false := by simpa using e37
  have q26 : (op == 26) = false := by simpa using e26
  have q27 : (op == 27) = false := by simpa using e27
  have HE : Hid (asked op = 5) := by show _ = _; unfold asked; rw [if_neg e1, if_neg e2, if_neg (by omega), if_neg (by omega)]
  clear e1 e2 e25 e36 e37 e26 e27
  go_enter Tryz.func151, Tryz.ntmps151
  go_wp2_with fail
  go_ret
  rw [HE.out]
  exact ⟨rfl, rfl⟩

theorem box2 {w : World} {q : Nat} {a0 a1 : Value} {t : TypeId} (h : w.heap[q]? = some (.cells #[a0, a1] t (0, 0))) : w.cell? ⟨q, 0, none⟩ = some a0 ∧ w.cell? ⟨q, 1, none⟩ = some a1 := by
  refine ⟨?_, ?_⟩ <;> simp [World.cell?, h]
theorem box5 {w : World} {q : Nat} {a0 a1 a2 a3 a4 : Value} {t : TypeId} (h : w.heap[q]? = some (.cells #[a0, a1, a2, a3, a4] t (0, 0))) :
    w.cell? ⟨q, 0, none⟩ = some a0 ∧ w.cell? ⟨q, 1, none⟩ = some a1 ∧ w.cell? ⟨q, 2, none⟩ = some a2 ∧ w.cell? ⟨q, 3, none⟩ = some a3 ∧ w.cell? ⟨q, 4, none⟩ = some a4 := by
  refine ⟨?_, ?_, ?_, ?_, ?_⟩ <;> simp [World.cell?, h]
end Go.Proofs.YthncdbobjeeeaaaGreatDoor
