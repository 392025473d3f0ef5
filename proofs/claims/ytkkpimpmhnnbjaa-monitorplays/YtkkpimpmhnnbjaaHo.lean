/- leave, handOver. -/
import Derived.Test.YtkkpimpmhnnbjaaPl
namespace Go.Proofs.Ytkkpimpmhnnbjaa
open Go.ChangeShapes Go.WideShapes Go.ChangeAt Go.RowKit

set_option maxRecDepth 100000 in
theorem leave_any {c : Nat} {w : World} {p n m1 m2 : Nat} {F : Int → Option Lay} {S : Int → Option Lk} {N : Int → Int} (h : TP c w p n m1 m2 F S N) (hn : n ≤ 900000) (t : Int) (ht : In t) (hN : In (N t - 1)) :
    Calls Try.prog 38 #[.pointer (some ⟨p, 0, none⟩), .int .i64 t] w fun e w' => e = .returned (.tuple #[]) ∧ TP c w' p (n + 1) m1 m2 F S (upd N t (N t - 1)) ∧ Fr (fun i => i = m2) w w' := by
  obtain ⟨hc0, hc1⟩ := cells2 h.tab
  have hl := h.sm.look ht
  obtain ⟨w1, hrun, s1, f1⟩ := h.sm.store (by omega) ht hN
  obtain ⟨t1, -⟩ := h.stand f1 s1 (Nat.le_succ n)
  obtain ⟨-, hc1'⟩ := cells2 t1.tab
  have hl1 := t1.sm.look ht
  rw [upd_same] at hl1
  obtain ⟨w2, hdel, s2, f2⟩ := t1.sm.drop ht 0
  rw [upd_upd] at s2
  obtain ⟨t2, -⟩ := t1.stand f2 s2 (Nat.le_refl _)
  have hwr : IntKind.i64.wrap (N t - 1) = N t - 1 := by
    rw [IntKind.wrap_i64]
    unfold In at hN
    omega
  have HT : Hid (TP c w1 p (n + 1) m1 m2 F S (upd N t (N t - 1)) ∧ Fr (fun i => i = m2) w w1) := ⟨t1, f1⟩
  have HU : Hid (TP c w2 p (n + 1) m1 m2 F S (upd N t 0) ∧ Fr (fun i => i = m2) w w2) := ⟨t2, f1.trans f2 (fun _ _ e => e) (fun _ _ e => e)⟩
  clear h s1 f1 t1 s2 f2 t2
  generalize N t = z at *
  by_cases h0 : z - 1 = 0
  · obtain rfl : z = 1 := by omega
    rw [show (1 : Int) - 1 = 0 from rfl] at hrun hl1 hwr
    clear h0
    go_enter Try.func38, Try.ntmps38
    go_wp2_with fail
    go_end0
    exact ⟨rfl, HU.out⟩
  · have g0 : (z - 1 == 0) = false := by simpa using h0
    clear h0
    go_enter Try.func38, Try.ntmps38
    go_wp2_with fail
    go_end0
    exact ⟨rfl, HT.out⟩
end Go.Proofs.Ytkkpimpmhnnbjaa
