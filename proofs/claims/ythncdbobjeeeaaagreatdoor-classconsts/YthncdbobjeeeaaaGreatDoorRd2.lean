/- The class reader: types, constants, fields, handlers, code. -/
import Derived.Test.YthncdbobjeeeaaaGreatDoorRd1
namespace Go.Proofs.YthncdbobjeeeaaaGreatDoor
open Go.ChangeShapes Go.WideShapes Go.ChangeAt Go.RowKit

/-- The reader stays beside stores into blocks that hold no byte. -/
theorem RT.away {w w' : World} {p q : Nat} {s : List Nat × Nat} (h : RT w p q s) {S : Nat → Prop} (hS : ∀ k, S k → k ≠ p ∧ k ≠ q ∧ ∀ cur t fz, w.heap[k]? = some (.cells cur t fz) → ∀ u ∈ cur.toList, nob u) (hf : Fr S w w') : RT w' p q s := by
  refine RS.kept h hf (fun e => (hS p e).1 rfl) (fun e => (hS q e).2.1 rfl) (fun k c hk e => ?_)
  obtain ⟨cur, t, fz, hg, hm⟩ := cell_mem hk
  exact (hS k.block e).2.2 cur t fz hg _ hm c rfl

theorem RT.lt {w : World} {p q : Nat} {s : List Nat × Nat} (h : RT w p q s) : p < w.heap.size ∧ q < w.heap.size := RS.lt h

/-- Cells without a byte. -/
theorem nob2 {x y : Value} (hx : nob x) (hy : nob y) : ∀ u ∈ (#[x, y] : Array Value).toList, nob u := by
  intro u hu
  simp at hu
  rcases hu with rfl | rfl
  · exact hx
  · exact hy

theorem tkB_lt {w : World} {p q : Nat} {s : List Nat × Nat} (h : RT w p q s) : (tkB s).1 < 256 := by
  unfold tkB
  split
  · cases e : s.1 with
    | nil => simp [by1]
    | cons c r =>
      have := RS.by_ h c (by rw [e]; simp)
      simpa [by1] using this
  · simp

theorem set_chain2 {w : World} {B : Nat} {y0 y1 x0 x1 : Value} {t : TypeId} (h : w.heap[B]? = some (.cells #[y0, y1] t (0, 0))) :
    ((w.setCell ⟨B, 0, none⟩ x0).setCell ⟨B, 1, none⟩ x1).heap[B]? = some (.cells #[x0, x1] t (0, 0)) := by
  have h0 : (w.setCell ⟨B, 0, none⟩ x0).heap[B]? = some (.cells #[x0, y1] t (0, 0)) := by
    unfold World.setCell
    rw [Array.getElem?_modify, if_pos rfl, h]
    rfl
  have h1 : ((w.setCell ⟨B, 0, none⟩ x0).setCell ⟨B, 1, none⟩ x1).heap[B]? = some (.cells #[x0, x1] t (0, 0)) := by
    generalize (w.setCell ⟨B, 0, none⟩ x0) = w' at *
    unfold World.setCell
    rw [Array.getElem?_modify, if_pos rfl, h0]
    rfl
  exact h1
theorem fr_chain2 (w : World) (B : Nat) (x0 x1 : Value) : Fr (fun k => k = B) w ((w.setCell ⟨B, 0, none⟩ x0).setCell ⟨B, 1, none⟩ x1) := (((Fr.refl (fun k => k = B) w).setCell (p := ⟨B, 0, none⟩) (fun _ => rfl) x0).setCell (p := ⟨B, 1, none⟩) (fun _ => rfl) x1)
theorem nobs2 {x0 x1 : Value} (h0 : nob x0) (h1 : nob x1) : ∀ u ∈ (#[x0, x1] : Array Value).toList, nob u := by
  intro u hu
  simp at hu
  rcases hu with rfl | rfl
  · exact h0
  · exact h1

theorem set_chain4 {w : World} {B : Nat} {y0 y1 y2 y3 x0 x1 x2 x3 : Value} {t : TypeId} (h : w.heap[B]? = some (.cells #[y0, y1, y2, y3] t (0, 0))) :
    ((((w.setCell ⟨B, 0, none⟩ x0).setCell ⟨B, 1, none⟩ x1).setCell ⟨B, 2, none⟩ x2).setCell ⟨B, 3, none⟩ x3).heap[B]? = some (.cells #[x0, x1, x2, x3] t (0, 0)) := by
  have h0 : (w.setCell ⟨B, 0, none⟩ x0).heap[B]? = some (.cells #[x0, y1, y2, y3] t (0, 0)) := by
    unfold World.setCell
    rw [Array.getElem?_modify, if_pos rfl, h]
    rfl
  have h1 : ((w.setCell ⟨B, 0, none⟩ x0).setCell ⟨B, 1, none⟩ x1).heap[B]? = some (.cells #[x0, x1, y2, y3] t (0, 0)) := by
    generalize (w.setCell ⟨B, 0, none⟩ x0) = w' at *
    unfold World.setCell
    rw [Array.getElem?_modify, if_pos rfl, h0]
    rfl
  have h2 : (((w.setCell ⟨B, 0, none⟩ x0).setCell ⟨B, 1, none⟩ x1).setCell ⟨B, 2, none⟩ x2).heap[B]? = some (.cells #[x0, x1, x2, y3] t (0, 0)) := by
    generalize ((w.setCell ⟨B, 0, none⟩ x0).setCell ⟨B, 1, none⟩ x1) = w' at *
    unfold World.setCell
    rw [Array.getElem?_modify, if_pos rfl, h1]
    rfl
  have h3 : ((((w.setCell ⟨B, 0, none⟩ x0).setCell ⟨B, 1, none⟩ x1).setCell ⟨B, 2, none⟩ x2).setCell ⟨B, 3, none⟩ x3).heap[B]? = some (.cells #[x0, x1, x2, x3] t (0, 0)) := by
    generalize (((w.setCell ⟨B, 0, none⟩ x0).setCell ⟨B, 1, none⟩ x1).setCell ⟨B, 2, none⟩ x2) = w' at *
    unfold World.setCell
    rw [Array.getElem?_modify, if_pos rfl, h2]
    rfl
  exact h3
theorem fr_chain4 (w : World) (B : Nat) (x0 x1 x2 x3 : Value) : Fr (fun k => k = B) w ((((w.setCell ⟨B, 0, none⟩ x0).setCell ⟨B, 1, none⟩ x1).setCell ⟨B, 2, none⟩ x2).setCell ⟨B, 3, none⟩ x3) := (((((Fr.refl (fun k => k = B) w).setCell (p := ⟨B, 0, none⟩) (fun _ => rfl) x0).setCell (p := ⟨B, 1, none⟩) (fun _ => rfl) x1).setCell (p := ⟨B, 2, none⟩) (fun _ => rfl) x2).setCell (p := ⟨B, 3, none⟩) (fun _ => rfl) x3)
theorem nobs4 {x0 x1 x2 x3 : Value} (h0 : nob x0) (h1 : nob x1) (h2 : nob x2) (h3 : nob x3) : ∀ u ∈ (#[x0, x1, x2, x3] : Array Value).toList, nob u := by
  intro u hu
  simp at hu
  rcases hu with rfl | rfl | rfl | rfl
  · exact h0
  · exact h1
  · exact h2
  · exact h3

theorem set_chain5 {w : World} {B : Nat} {y0 y1 y2 y3 y4 x0 x1 x2 x3 x4 : Value} {t : TypeId} (h : w.heap[B]? = some (.cells #[y0, y1, y2, y3, y4] t (0, 0))) :
    (((((w.setCell ⟨B, 0, none⟩ x0).setCell ⟨B, 1, none⟩ x1).setCell ⟨B, 2, none⟩ x2).setCell ⟨B, 3, none⟩ x3).setCell ⟨B, 4, none⟩ x4).heap[B]? = some (.cells #[x0, x1, x2, x3, x4] t (0, 0)) := by
  have h0 : (w.setCell ⟨B, 0, none⟩ x0).heap[B]? = some (.cells #[x0, y1, y2, y3, y4] t (0, 0)) := by
    unfold World.setCell
    rw [Array.getElem?_modify, if_pos rfl, h]
    rfl
  have h1 : ((w.setCell ⟨B, 0, none⟩ x0).setCell ⟨B, 1, none⟩ x1).heap[B]? = some (.cells #[x0, x1, y2, y3, y4] t (0, 0)) := by
    generalize (w.setCell ⟨B, 0, none⟩ x0) = w' at *
    unfold World.setCell
    rw [Array.getElem?_modify, if_pos rfl, h0]
    rfl
  have h2 : (((w.setCell ⟨B, 0, none⟩ x0).setCell ⟨B, 1, none⟩ x1).setCell ⟨B, 2, none⟩ x2).heap[B]? = some (.cells #[x0, x1, x2, y3, y4] t (0, 0)) := by
    generalize ((w.setCell ⟨B, 0, none⟩ x0).setCell ⟨B, 1, none⟩ x1) = w' at *
    unfold World.setCell
    rw [Array.getElem?_modify, if_pos rfl, h1]
    rfl
  have h3 : ((((w.setCell ⟨B, 0, none⟩ x0).setCell ⟨B, 1, none⟩ x1).setCell ⟨B, 2, none⟩ x2).setCell ⟨B, 3, none⟩ x3).heap[B]? = some (.cells #[x0, x1, x2, x3, y4] t (0, 0)) := by
    generalize (((w.setCell ⟨B, 0, none⟩ x0).setCell ⟨B, 1, none⟩ x1).setCell ⟨B, 2, none⟩ x2) = w' at *
    unfold World.setCell
    rw [Array.getElem?_modify, if_pos rfl, h2]
    rfl
  have h4 : (((((w.setCell ⟨B, 0, none⟩ x0).setCell ⟨B, 1, none⟩ x1).setCell ⟨B, 2, none⟩ x2).setCell ⟨B, 3, none⟩ x3).setCell ⟨B, 4, none⟩ x4).heap[B]? = some (.cells #[x0, x1, x2, x3, x4] t (0, 0)) := by
    generalize ((((w.setCell ⟨B, 0, none⟩ x0).setCell ⟨B, 1, none⟩ x1).setCell ⟨B, 2, none⟩ x2).setCell ⟨B, 3, none⟩ x3) = w' at *
    unfold World.setCell
    rw [Array.getElem?_modify, if_pos rfl, h3]
    rfl
  exact h4
theorem fr_chain5 (w : World) (B : Nat) (x0 x1 x2 x3 x4 : Value) : Fr (fun k => k = B) w (((((w.setCell ⟨B, 0, none⟩ x0).setCell ⟨B, 1, none⟩ x1).setCell ⟨B, 2, none⟩ x2).setCell ⟨B, 3, none⟩ x3).setCell ⟨B, 4, none⟩ x4) := ((((((Fr.refl (fun k => k = B) w).setCell (p := ⟨B, 0, none⟩) (fun _ => rfl) x0).setCell (p := ⟨B, 1, none⟩) (fun _ => rfl) x1).setCell (p := ⟨B, 2, none⟩) (fun _ => rfl) x2).setCell (p := ⟨B, 3, none⟩) (fun _ => rfl) x3).setCell (p := ⟨B, 4, none⟩) (fun _ => rfl) x4)
theorem nobs5 {x0 x1 x2 x3 x4 : Value} (h0 : nob x0) (h1 : nob x1) (h2 : nob x2) (h3 : nob x3) (h4 : nob x4) : ∀ u ∈ (#[x0, x1, x2, x3, x4] : Array Value).toList, nob u := by
  intro u hu
  simp at hu
  rcases hu with rfl | rfl | rfl | rfl | rfl
  · exact h0
  · exact h1
  · exact h2
  · exact h3
  · exact h4

theorem set_chain8 {w : World} {B : Nat} {y0 y1 y2 y3 y4 y5 y6 y7 x0 x1 x2 x3 x4 x5 x6 x7 : Value} {t : TypeId} (h : w.heap[B]? = some (.cells #[y0, y1, y2, y3, y4, y5, y6, y7] t (0, 0))) :
    ((((((((w.setCell ⟨B, 0, none⟩ x0).setCell ⟨B, 1, none⟩ x1).setCell ⟨B, 2, none⟩ x2).setCell ⟨B, 3, none⟩ x3).setCell ⟨B, 4, none⟩ x4).setCell ⟨B, 5, none⟩ x5).setCell ⟨B, 6, none⟩ x6).setCell ⟨B, 7, none⟩ x7).heap[B]? = some (.cells #[x0, x1, x2, x3, x4, x5, x6, x7] t (0, 0)) := by
  have h0 : (w.setCell ⟨B, 0, none⟩ x0).heap[B]? = some (.cells #[x0, y1, y2, y3, y4, y5, y6, y7] t (0, 0)) := by
    unfold World.setCell
    rw [Array.getElem?_modify, if_pos rfl, h]
    rfl
  have h1 : ((w.setCell ⟨B, 0, none⟩ x0).setCell ⟨B, 1, none⟩ x1).heap[B]? = some (.cells #[x0, x1, y2, y3, y4, y5, y6, y7] t (0, 0)) := by
    generalize (w.setCell ⟨B, 0, none⟩ x0) = w' at *
    unfold World.setCell
    rw [Array.getElem?_modify, if_pos rfl, h0]
    rfl
  have h2 : (((w.setCell ⟨B, 0, none⟩ x0).setCell ⟨B, 1, none⟩ x1).setCell ⟨B, 2, none⟩ x2).heap[B]? = some (.cells #[x0, x1, x2, y3, y4, y5, y6, y7] t (0, 0)) := by
    generalize ((w.setCell ⟨B, 0, none⟩ x0).setCell ⟨B, 1, none⟩ x1) = w' at *
    unfold World.setCell
    rw [Array.getElem?_modify, if_pos rfl, h1]
    rfl
  have h3 : ((((w.setCell ⟨B, 0, none⟩ x0).setCell ⟨B, 1, none⟩ x1).setCell ⟨B, 2, none⟩ x2).setCell ⟨B, 3, none⟩ x3).heap[B]? = some (.cells #[x0, x1, x2, x3, y4, y5, y6, y7] t (0, 0)) := by
    generalize (((w.setCell ⟨B, 0, none⟩ x0).setCell ⟨B, 1, none⟩ x1).setCell ⟨B, 2, none⟩ x2) = w' at *
    unfold World.setCell
    rw [Array.getElem?_modify, if_pos rfl, h2]
    rfl
  have h4 : (((((w.setCell ⟨B, 0, none⟩ x0).setCell ⟨B, 1, none⟩ x1).setCell ⟨B, 2, none⟩ x2).setCell ⟨B, 3, none⟩ x3).setCell ⟨B, 4, none⟩ x4).heap[B]? = some (.cells #[x0, x1, x2, x3, x4, y5, y6, y7] t (0, 0)) := by
    generalize ((((w.setCell ⟨B, 0, none⟩ x0).setCell ⟨B, 1, none⟩ x1).setCell ⟨B, 2, none⟩ x2).setCell ⟨B, 3, none⟩ x3) = w' at *
    unfold World.setCell
    rw [Array.getElem?_modify, if_pos rfl, h3]
    rfl
  have h5 : ((((((w.setCell ⟨B, 0, none⟩ x0).setCell ⟨B, 1, none⟩ x1).setCell ⟨B, 2, none⟩ x2).setCell ⟨B, 3, none⟩ x3).setCell ⟨B, 4, none⟩ x4).setCell ⟨B, 5, none⟩ x5).heap[B]? = some (.cells #[x0, x1, x2, x3, x4, x5, y6, y7] t (0, 0)) := by
    generalize (((((w.setCell ⟨B, 0, none⟩ x0).setCell ⟨B, 1, none⟩ x1).setCell ⟨B, 2, none⟩ x2).setCell ⟨B, 3, none⟩ x3).setCell ⟨B, 4, none⟩ x4) = w' at *
    unfold World.setCell
    rw [Array.getElem?_modify, if_pos rfl, h4]
    rfl
  have h6 : (((((((w.setCell ⟨B, 0, none⟩ x0).setCell ⟨B, 1, none⟩ x1).setCell ⟨B, 2, none⟩ x2).setCell ⟨B, 3, none⟩ x3).setCell ⟨B, 4, none⟩ x4).setCell ⟨B, 5, none⟩ x5).setCell ⟨B, 6, none⟩ x6).heap[B]? = some (.cells #[x0, x1, x2, x3, x4, x5, x6, y7] t (0, 0)) := by
    generalize ((((((w.setCell ⟨B, 0, none⟩ x0).setCell ⟨B, 1, none⟩ x1).setCell ⟨B, 2, none⟩ x2).setCell ⟨B, 3, none⟩ x3).setCell ⟨B, 4, none⟩ x4).setCell ⟨B, 5, none⟩ x5) = w' at *
    unfold World.setCell
    rw [Array.getElem?_modify, if_pos rfl, h5]
    rfl
  have h7 : ((((((((w.setCell ⟨B, 0, none⟩ x0).setCell ⟨B, 1, none⟩ x1).setCell ⟨B, 2, none⟩ x2).setCell ⟨B, 3, none⟩ x3).setCell ⟨B, 4, none⟩ x4).setCell ⟨B, 5, none⟩ x5).setCell ⟨B, 6, none⟩ x6).setCell ⟨B, 7, none⟩ x7).heap[B]? = some (.cells #[x0, x1, x2, x3, x4, x5, x6, x7] t (0, 0)) := by
    generalize (((((((w.setCell ⟨B, 0, none⟩ x0).setCell ⟨B, 1, none⟩ x1).setCell ⟨B, 2, none⟩ x2).setCell ⟨B, 3, none⟩ x3).setCell ⟨B, 4, none⟩ x4).setCell ⟨B, 5, none⟩ x5).setCell ⟨B, 6, none⟩ x6) = w' at *
    unfold World.setCell
    rw [Array.getElem?_modify, if_pos rfl, h6]
    rfl
  exact h7
theorem fr_chain8 (w : World) (B : Nat) (x0 x1 x2 x3 x4 x5 x6 x7 : Value) : Fr (fun k => k = B) w ((((((((w.setCell ⟨B, 0, none⟩ x0).setCell ⟨B, 1, none⟩ x1).setCell ⟨B, 2, none⟩ x2).setCell ⟨B, 3, none⟩ x3).setCell ⟨B, 4, none⟩ x4).setCell ⟨B, 5, none⟩ x5).setCell ⟨B, 6, none⟩ x6).setCell ⟨B, 7, none⟩ x7) := (((((((((Fr.refl (fun k => k = B) w).setCell (p := ⟨B, 0, none⟩) (fun _ => rfl) x0).setCell (p := ⟨B, 1, none⟩) (fun _ => rfl) x1).setCell (p := ⟨B, 2, none⟩) (fun _ => rfl) x2).setCell (p := ⟨B, 3, none⟩) (fun _ => rfl) x3).setCell (p := ⟨B, 4, none⟩) (fun _ => rfl) x4).setCell (p := ⟨B, 5, none⟩) (fun _ => rfl) x5).setCell (p := ⟨B, 6, none⟩) (fun _ => rfl) x6).setCell (p := ⟨B, 7, none⟩) (fun _ => rfl) x7)
theorem nobs8 {x0 x1 x2 x3 x4 x5 x6 x7 : Value} (h0 : nob x0) (h1 : nob x1) (h2 : nob x2) (h3 : nob x3) (h4 : nob x4) (h5 : nob x5) (h6 : nob x6) (h7 : nob x7) : ∀ u ∈ (#[x0, x1, x2, x3, x4, x5, x6, x7] : Array Value).toList, nob u := by
  intro u hu
  simp at hu
  rcases hu with rfl | rfl | rfl | rfl | rfl | rfl | rfl | rfl
  · exact h0
  · exact h1
  · exact h2
  · exact h3
  · exact h4
  · exact h5
  · exact h6
  · exact h7

theorem cells4z {w : World} {r : Nat} {a b c d : Value} {t : TypeId} (h : w.heap[r]? = some (.cells #[a, b, c, d] t (0, 0))) : (w.cell? ⟨r, 0, none⟩ = some a ∧ w.cell? ⟨r, 1, none⟩ = some b ∧ w.cell? ⟨r, 2, none⟩ = some c ∧ w.cell? ⟨r, 3, none⟩ = some d) ∧ (w.frozen? ⟨r, 0, none⟩ = false ∧ w.frozen? ⟨r, 1, none⟩ = false ∧ w.frozen? ⟨r, 2, none⟩ = false ∧ w.frozen? ⟨r, 3, none⟩ = false) := by
  refine ⟨⟨?_, ?_, ?_, ?_⟩, ?_, ?_, ?_, ?_⟩ <;> simp [World.cell?, World.frozen?, h]
theorem cells5z {w : World} {r : Nat} {a b c d e : Value} {t : TypeId} (h : w.heap[r]? = some (.cells #[a, b, c, d, e] t (0, 0))) : (w.cell? ⟨r, 0, none⟩ = some a ∧ w.cell? ⟨r, 1, none⟩ = some b ∧ w.cell? ⟨r, 2, none⟩ = some c ∧ w.cell? ⟨r, 3, none⟩ = some d ∧ w.cell? ⟨r, 4, none⟩ = some e) ∧ (w.frozen? ⟨r, 0, none⟩ = false ∧ w.frozen? ⟨r, 1, none⟩ = false ∧ w.frozen? ⟨r, 2, none⟩ = false ∧ w.frozen? ⟨r, 3, none⟩ = false ∧ w.frozen? ⟨r, 4, none⟩ = false) := by
  refine ⟨⟨?_, ?_, ?_, ?_, ?_⟩, ?_, ?_, ?_, ?_, ?_⟩ <;> simp [World.cell?, World.frozen?, h]
theorem cells8z {w : World} {r : Nat} {a b c d e f g i : Value} {t : TypeId} (h : w.heap[r]? = some (.cells #[a, b, c, d, e, f, g, i] t (0, 0))) : (w.cell? ⟨r, 0, none⟩ = some a ∧ w.cell? ⟨r, 1, none⟩ = some b ∧ w.cell? ⟨r, 2, none⟩ = some c ∧ w.cell? ⟨r, 3, none⟩ = some d ∧ w.cell? ⟨r, 4, none⟩ = some e ∧ w.cell? ⟨r, 5, none⟩ = some f ∧ w.cell? ⟨r, 6, none⟩ = some g ∧ w.cell? ⟨r, 7, none⟩ = some i) ∧ (w.frozen? ⟨r, 0, none⟩ = false ∧ w.frozen? ⟨r, 1, none⟩ = false ∧ w.frozen? ⟨r, 2, none⟩ = false ∧ w.frozen? ⟨r, 3, none⟩ = false ∧ w.frozen? ⟨r, 4, none⟩ = false ∧ w.frozen? ⟨r, 5, none⟩ = false ∧ w.frozen? ⟨r, 6, none⟩ = false ∧ w.frozen? ⟨r, 7, none⟩ = false) := by
  refine ⟨⟨?_, ?_, ?_, ?_, ?_, ?_, ?_, ?_⟩, ?_, ?_, ?_, ?_, ?_, ?_, ?_, ?_⟩ <;> simp [World.cell?, World.frozen?, h]

theorem results_68 (w : World) (r : Nat) (x0 x1 : Value) (h : w.heap[r]? = some (.cells #[x0, x1] 46 (0, 0))) (tmps : Array Value) (h2 : tmps.getD 2 undef = .pointer (some ⟨r, 0, none⟩)) :
    (results Tryz.f68 tmps).run Tryz.prog w = .ok (.agg #[x0, x1]) w := by
  have hl : (loadVar 46 ⟨r, 0, none⟩).run Tryz.prog w = .ok (.agg #[x0, x1]) w := run_loadVar_row (P := Tryz.prog) w r 46 46 #[x0, x1] (0, 0) _ h Tryz.underlying46 rfl (by kernel_rfl)
  have h2' : tmps[2]?.getD undef = .pointer (some ⟨r, 0, none⟩) := by simpa using h2
  simp [results, asAddr, h2', hl]

theorem results_20 (w : World) (r : Nat) (x0 x1 x2 x3 x4 : Value) (h : w.heap[r]? = some (.cells #[x0, x1, x2, x3, x4] 39 (0, 0))) (tmps : Array Value) (h2 : tmps.getD 2 undef = .pointer (some ⟨r, 0, none⟩)) :
    (results Tryz.f20 tmps).run Tryz.prog w = .ok (.agg #[x0, x1, x2, x3, x4]) w := by
  have hl : (loadVar 39 ⟨r, 0, none⟩).run Tryz.prog w = .ok (.agg #[x0, x1, x2, x3, x4]) w := run_loadVar_row (P := Tryz.prog) w r 39 39 #[x0, x1, x2, x3, x4] (0, 0) _ h Tryz.underlying39 rfl (by kernel_rfl)
  have h2' : tmps[2]?.getD undef = .pointer (some ⟨r, 0, none⟩) := by simpa using h2
  simp [results, asAddr, h2', hl]

theorem results_22 (w : World) (r : Nat) (x0 x1 x2 x3 : Value) (h : w.heap[r]? = some (.cells #[x0, x1, x2, x3] 48 (0, 0))) (tmps : Array Value) (h2 : tmps.getD 2 undef = .pointer (some ⟨r, 0, none⟩)) :
    (results Tryz.f22 tmps).run Tryz.prog w = .ok (.agg #[x0, x1, x2, x3]) w := by
  have hl : (loadVar 48 ⟨r, 0, none⟩).run Tryz.prog w = .ok (.agg #[x0, x1, x2, x3]) w := run_loadVar_row (P := Tryz.prog) w r 48 48 #[x0, x1, x2, x3] (0, 0) _ h Tryz.underlying48 rfl (by kernel_rfl)
  have h2' : tmps[2]?.getD undef = .pointer (some ⟨r, 0, none⟩) := by simpa using h2
  simp [results, asAddr, h2', hl]

theorem results_73 (w : World) (r : Nat) (x0 x1 x2 x3 x4 : Value) (h : w.heap[r]? = some (.cells #[x0, x1, x2, x3, x4] 59 (0, 0))) (tmps : Array Value) (h2 : tmps.getD 2 undef = .pointer (some ⟨r, 0, none⟩)) :
    (results Tryz.f73 tmps).run Tryz.prog w = .ok (.agg #[x0, x1, x2, x3, x4]) w := by
  have hl : (loadVar 59 ⟨r, 0, none⟩).run Tryz.prog w = .ok (.agg #[x0, x1, x2, x3, x4]) w := run_loadVar_row (P := Tryz.prog) w r 59 59 #[x0, x1, x2, x3, x4] (0, 0) _ h Tryz.underlying59 rfl (by kernel_rfl)
  have h2' : tmps[2]?.getD undef = .pointer (some ⟨r, 0, none⟩) := by simpa using h2
  simp [results, asAddr, h2', hl]

theorem results_24 (w : World) (r : Nat) (x0 x1 x2 x3 x4 x5 x6 x7 : Value) (h : w.heap[r]? = some (.cells #[x0, x1, x2, x3, x4, x5, x6, x7] 53 (0, 0))) (tmps : Array Value) (h2 : tmps.getD 2 undef = .pointer (some ⟨r, 0, none⟩)) :
    (results Tryz.f24 tmps).run Tryz.prog w = .ok (.agg #[x0, x1, x2, x3, x4, x5, x6, x7]) w := by
  have hl : (loadVar 53 ⟨r, 0, none⟩).run Tryz.prog w = .ok (.agg #[x0, x1, x2, x3, x4, x5, x6, x7]) w := run_loadVar_row (P := Tryz.prog) w r 53 53 #[x0, x1, x2, x3, x4, x5, x6, x7] (0, 0) _ h Tryz.underlying53 rfl (by kernel_rfl)
  have h2' : tmps[2]?.getD undef = .pointer (some ⟨r, 0, none⟩) := by simpa using h2
  simp [results, asAddr, h2', hl]

/-- A type, read. -/
def rTy (s : List Nat × Nat) : Ty × (List Nat × Nat) := if (tkB s).1 = 4 then (⟨4, (tkT 20 (tkB s).2).1⟩, (tkT 20 (tkB s).2).2) else (⟨((tkB s).1 : Int), e0⟩, (tkB s).2)

set_option maxRecDepth 100000 in
set_option maxHeartbeats 1000000 in
theorem readType_any (w : World) (p q : Nat) (s : List Nat × Nat) (h : RT w p q s) :
    Calls Tryz.prog 68 #[.pointer (some ⟨p, 0, none⟩)] w fun x w' => x = .returned (.agg #[.int .i64 (rTy s).1.k, .string (rTy s).1.c]) ∧ RT w' p q (rTy s).2 ∧ Fr (PQ p q) w w' := by
  have f0 : Fr no w (w.alloc (.cells #[.int .i64 0, .string e0] 46)) := (Fr.refl no w).alloc _ _
  have hb0 := heap_alloc_new w (.cells #[.int .i64 0, .string e0] 46)
  have K := rByte_any _ p q s (h.new f0)
  have HR : Hid (rTy s = if (tkB s).1 = 4 then (⟨4, (tkT 20 (tkB s).2).1⟩, (tkT 20 (tkB s).2).2) else (⟨((tkB s).1 : Int), e0⟩, (tkB s).2)) := rfl
  have hlt := h.lt
  have hc256 := tkB_lt h
  have HF : Hid (Fr no w (w.alloc (.cells #[.int .i64 0, .string e0] 46))) := f0
  have hsz : (w.alloc (.cells #[.int .i64 0, .string e0] 46)).heap.size = w.heap.size + 1 := size_alloc _ _
  generalize rTy s = r at *
  generalize tkB s = t at *
  obtain ⟨c, t⟩ := t
  simp only [] at K HR hc256
  have HB : Hid (∀ w1, Fr (PQ p q) (w.alloc (.cells #[.int .i64 0, .string e0] 46)) w1 → w1.heap[w.heap.size]? = some (.cells #[.int .i64 0, .string e0] 46 (0, 0)) ∧ w.heap.size < w1.heap.size) := fun w1 f1 =>
    ⟨f1.heap hb0 (fun e => e.elim (fun e => by omega) (fun e => by omega)), by have := f1.size; omega⟩
  clear h f0 hb0
  by_cases h4 : c = 4
  · subst h4
    rw [if_pos rfl] at HR
    go_enter Tryz.func68, Tryz.ntmps68
    go_wp2_with fail
    refine K.mono ?_
    rintro x w1 ⟨rfl, r1, f1⟩
    have hlt1 := r1.lt
    obtain ⟨hB1, hBs⟩ := HB.out w1 f1
    have fa : Fr no w1 (w1.alloc (.cells #[.int .i64 4, .string e0] 46)) := (Fr.refl no w1).alloc _ _
    have hA0 := heap_alloc_new w1 (.cells #[.int .i64 4, .string e0] 46)
    have N := rName_any _ p q t (r1.new fa)
    have hB2 := fa.heap hB1 (fun f => f)
    have HFa : Hid (Fr no w1 (w1.alloc (.cells #[.int .i64 4, .string e0] 46))) := fa
    have HF1 : Hid (Fr (PQ p q) w w1) := HF.out.trans f1 (fun _ _ f => f.elim) (fun _ _ e => e)
    have hAB : ¬ w1.heap.size = w.heap.size := by omega
    clear fa f1 hB1
    go_wp2_with fail
    refine N.mono ?_
    rintro x w2 ⟨rfl, r2, f2⟩
    have hA3 := f2.heap hA0 (fun e => e.elim (fun e => by omega) (fun e => by omega))
    have hB3 := f2.heap hB2 (fun e => e.elim (fun e => by omega) (fun e => by omega))
    obtain ⟨a0, a1, az0, az1⟩ := two_cells hA3
    obtain ⟨b0, b1, bz0, bz1⟩ := two_cells hB3
    generalize tkT 20 t = r3 at *
    obtain ⟨nm, t3⟩ := r3
    simp only [] at r2 HR ⊢
    clear hA0 hB2 N
    go_wp2_with fail
    have g1 : (w2.setCell ⟨w1.heap.size, 1, none⟩ (.string nm)).heap[w.heap.size]? = some (.cells #[.int .i64 0, .string e0] 46 (0, 0)) := by
      rw [Below.heap_setCell w2 ⟨w1.heap.size, 1, none⟩ _ w.heap.size (by simp; omega)]
      exact hB3
    refine bodyPost_ret (results_68 _ w.heap.size _ _ (two_set g1) _ rfl) rfl ?_
    have FF : Fr (fun k => k = w1.heap.size ∨ k = w.heap.size) w2 (((w2.setCell ⟨w1.heap.size, 1, none⟩ (.string nm)).setCell ⟨w.heap.size, 0, none⟩ (.int .i64 4)).setCell ⟨w.heap.size, 1, none⟩ (.string nm)) :=
      (((Fr.refl _ w2).setCell (p := ⟨w1.heap.size, 1, none⟩) (fun _ => .inl rfl) _).setCell (p := ⟨w.heap.size, 0, none⟩) (fun _ => .inr rfl) _).setCell (p := ⟨w.heap.size, 1, none⟩) (fun _ => .inr rfl) _
    rw [HR.out]
    refine ⟨rfl, r2.away (fun k hk => ?_) FF, ?_⟩
    · rcases hk with rfl | rfl
      · exact ⟨by omega, by omega, fun cur t fz hc => by rw [hA3] at hc; simp only [Option.some.injEq, Obj.cells.injEq] at hc; rw [← hc.1]; exact nob2 (nob_int _) (nob_str _)⟩
      · exact ⟨by omega, by omega, fun cur t fz hc => by rw [hB3] at hc; simp only [Option.some.injEq, Obj.cells.injEq] at hc; rw [← hc.1]; exact nob2 (nob_int _) (nob_str _)⟩
    · exact ((HF1.out.trans HFa.out (fun _ _ e => e) (fun _ _ f => f.elim)).trans f2 (fun _ _ e => e) (fun _ _ e => e)).trans FF (fun _ _ e => e) (fun i hi e => by have := HF1.out.size; rcases e with e | e <;> omega)
  · rw [if_neg h4] at HR
    have h4' : ((c : Int) == 4) = false := by simp; omega
    have hwc : IntKind.i64.wrap (c : Int) = (c : Int) := by simp [IntKind.wrap, IntKind.signed, IntKind.bits]; omega
    go_enter Tryz.func68, Tryz.ntmps68
    go_wp2_with fail
    refine K.mono ?_
    rintro x w1 ⟨rfl, r1, f1⟩
    have hlt1 := r1.lt
    obtain ⟨hB1, hBs⟩ := HB.out w1 f1
    obtain ⟨b0, b1, bz0, bz1⟩ := two_cells hB1
    have HF1 : Hid (Fr (PQ p q) w w1) := HF.out.trans f1 (fun _ _ f => f.elim) (fun _ _ e => e)
    have hAB : ¬ w1.heap.size = w.heap.size := by omega
    clear f1
    go_wp2_with fail
    refine bodyPost_ret (results_68 _ w.heap.size _ _ (((Fr.refl no _).alloc _ _).heap (two_set hB1) (fun f => f)) _ rfl) rfl ?_
    have FF := fr_chain2 w1 w.heap.size (.int .i64 (c : Int)) (.string e0)
    rw [HR.out]
    refine ⟨rfl, (r1.away (fun k hk => ?_) FF).new ((Fr.refl no _).alloc _ _), ?_⟩
    · subst hk
      exact ⟨by omega, by omega, fun cur t fz hc => by rw [hB1] at hc; simp only [Option.some.injEq, Obj.cells.injEq] at hc; rw [← hc.1]; exact nob2 (nob_int _) (nob_str _)⟩
    · exact (HF1.out.trans FF (fun _ _ e => e) (fun i hi e => by omega)).alloc _ _
end Go.Proofs.YthncdbobjeeeaaaGreatDoor
