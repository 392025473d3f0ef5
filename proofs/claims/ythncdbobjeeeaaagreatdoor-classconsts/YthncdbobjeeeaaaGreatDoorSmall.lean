/- The small class of the laws. -/
import Derived.Test.YthncdbobjeeeaaaGreatDoorRd7
import Derived.Test.YthncdbobjeeeaaaGreatDoorSame3
namespace Go.Proofs.YthncdbobjeeeaaaGreatDoor
open Go.ChangeShapes Go.WideShapes Go.ChangeAt Go.RowKit

theorem results_12 (w : World) (r : Nat) (x0 x1 x2 x3 x4 : Value) (h : w.heap[r]? = some (.cells #[x0, x1, x2, x3, x4] 28 (0, 0))) (tmps : Array Value) (h2 : tmps.getD 0 undef = .pointer (some ⟨r, 0, none⟩)) :
    (results Tryz.f12 tmps).run Tryz.prog w = .ok (.agg #[x0, x1, x2, x3, x4]) w := by
  have hl : (loadVar 28 ⟨r, 0, none⟩).run Tryz.prog w = .ok (.agg #[x0, x1, x2, x3, x4]) w := run_loadVar_row (P := Tryz.prog) w r 28 28 #[x0, x1, x2, x3, x4] (0, 0) _ h Tryz.underlying28 rfl (by kernel_rfl)
  have h2' : tmps[0]?.getD undef = .pointer (some ⟨r, 0, none⟩) := by simpa using h2
  simp [results, asAddr, h2', hl]

set_option maxRecDepth 100000 in
set_option maxHeartbeats 1000000 in
theorem small_any (w : World) : Calls Tryz.prog 12 #[] w fun e w' => ∃ q r, e = .returned (.agg #[.string ⟨#[77, 97, 105, 110]⟩, .string ⟨#[]⟩, .slice none 0 0, .slice none 0 0, .slice (some ⟨r, 0, none⟩) 1 1]) ∧ w.heap.size ≤ q ∧ w.heap.size ≤ r ∧ q ≠ r ∧
    w'.heap[q]? = some (.cells #[.int .i64 33, .int .i64 0] 57 (0, 0)) ∧ w'.heap[r]? = some (.cells #[.string ⟨#[109, 97, 105, 110]⟩, .slice none 0 0, .int .i64 0, .string ⟨#[]⟩, .int .i64 1, .int .i64 0, .slice (some ⟨q, 0, none⟩) 1 1, .slice none 0 0] 53 (0, 0)) ∧ Fr no w w' := by
  have s0 := size_alloc w (.cells #[.string ⟨#[]⟩, .string ⟨#[]⟩, .slice none 0 0, .slice none 0 0, .slice none 0 0] 28)
  have b0 := heap_alloc_new w (.cells #[.string ⟨#[]⟩, .string ⟨#[]⟩, .slice none 0 0, .slice none 0 0, .slice none 0 0] 28)
  have f0 : Fr no w (w.alloc (.cells #[.string ⟨#[]⟩, .string ⟨#[]⟩, .slice none 0 0, .slice none 0 0, .slice none 0 0] 28)) := (Fr.refl no w).alloc _ _
  generalize hW0 : w.alloc (.cells #[.string ⟨#[]⟩, .string ⟨#[]⟩, .slice none 0 0, .slice none 0 0, .slice none 0 0] 28) = W0 at *
  have s1 := size_alloc W0 (.cells #[.int .i64 33, .int .i64 0] 57)
  have b1 := heap_alloc_new W0 (.cells #[.int .i64 33, .int .i64 0] 57)
  have f1 : Fr no W0 (W0.alloc (.cells #[.int .i64 33, .int .i64 0] 57)) := (Fr.refl no W0).alloc _ _
  generalize hW1 : W0.alloc (.cells #[.int .i64 33, .int .i64 0] 57) = W1 at *
  rw [s0] at s1 b1
  have b2 := heap_alloc_new W1 (.cells #[.string ⟨#[109, 97, 105, 110]⟩, .slice none 0 0, .int .i64 0, .string ⟨#[]⟩, .int .i64 1, .int .i64 0, .slice (some ⟨w.heap.size + 1, 0, none⟩) 1 1, .slice none 0 0] 53)
  have f2 : Fr no W1 (W1.alloc (.cells #[.string ⟨#[109, 97, 105, 110]⟩, .slice none 0 0, .int .i64 0, .string ⟨#[]⟩, .int .i64 1, .int .i64 0, .slice (some ⟨w.heap.size + 1, 0, none⟩) 1 1, .slice none 0 0] 53)) := (Fr.refl no W1).alloc _ _
  generalize hW2 : W1.alloc (.cells #[.string ⟨#[109, 97, 105, 110]⟩, .slice none 0 0, .int .i64 0, .string ⟨#[]⟩, .int .i64 1, .int .i64 0, .slice (some ⟨w.heap.size + 1, 0, none⟩) 1 1, .slice none 0 0] 53) = W2 at *
  rw [s1] at b2
  have b02 := f2.heap (f1.heap b0 (fun f => f)) (fun f => f)
  have b12 := f2.heap b1 (fun f => f)
  obtain ⟨⟨c0, c1, c2, c3, c4⟩, z0, z1, z2, z3, z4⟩ := cells5z b02
  have HF : Hid (Fr no w W2) := (f0.new f1 (fun _ _ f => f)).new f2 (fun _ _ f => f)
  clear f0 f1 f2 b0 b1
  go_enter Tryz.func12, Tryz.ntmps12
  go_wp2_with fail
  have FF := fr_chain5 W2 w.heap.size (.string ⟨#[77, 97, 105, 110]⟩) (.string ⟨#[]⟩) (.slice none 0 0) (.slice none 0 0) (.slice (some ⟨w.heap.size + 1 + 1, 0, none⟩) 1 1)
  have hZ : (World.setCell (World.setCell (World.setCell (World.setCell (World.setCell W2 ⟨w.heap.size, 0, none⟩ (.string ⟨#[77, 97, 105, 110]⟩)) ⟨w.heap.size, 1, none⟩ (.string ⟨#[]⟩)) ⟨w.heap.size, 2, none⟩ (.slice none 0 0)) ⟨w.heap.size, 3, none⟩ (.slice none 0 0)) ⟨w.heap.size, 4, none⟩ (.slice (some ⟨w.heap.size + 1 + 1, 0, none⟩) 1 1)).heap[w.heap.size]? = some (.cells #[.string ⟨#[77, 97, 105, 110]⟩, .string ⟨#[]⟩, .slice none 0 0, .slice none 0 0, .slice (some ⟨w.heap.size + 1 + 1, 0, none⟩) 1 1] 28 (0, 0)) := set_chain5 b02
  refine bodyPost_ret (results_12 (World.setCell (World.setCell (World.setCell (World.setCell (World.setCell W2 ⟨w.heap.size, 0, none⟩ (.string ⟨#[77, 97, 105, 110]⟩)) ⟨w.heap.size, 1, none⟩ (.string ⟨#[]⟩)) ⟨w.heap.size, 2, none⟩ (.slice none 0 0)) ⟨w.heap.size, 3, none⟩ (.slice none 0 0)) ⟨w.heap.size, 4, none⟩ (.slice (some ⟨w.heap.size + 1 + 1, 0, none⟩) 1 1)) w.heap.size _ _ _ _ _ hZ _ rfl) rfl ?_
  exact ⟨w.heap.size + 1, w.heap.size + 1 + 1, rfl, by omega, by omega, by omega, FF.heap b12 (fun e => by omega), FF.heap b2 (fun e => by omega), HF.out.trans FF (fun _ _ f => f) (fun i hi e => by omega)⟩
end Go.Proofs.YthncdbobjeeeaaaGreatDoor
