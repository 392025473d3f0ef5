/- The statement on chains of classes: its rows. -/
import Derived.Test.YtabiagheflkiaaaLine
namespace Go.Proofs.Ytabiagheflkiaaa
open Go.ChangeShapes Go.WideShapes Go.ChangeAt Go.RowKit

theorem aheads_size (k : Nat) : ∀ x ∈ aheads k, x.size ≤ 1099511627776 := by
  intro x hx
  obtain ⟨i, -, rfl⟩ := List.mem_map.1 hx
  unfold ahead
  split
  · decide
  · rw [ByteArray.size_extract]
    have : ABC.size = 16 := rfl
    omega

theorem letter_size (i : Nat) : (letterAt i).size ≤ 1099511627776 := by
  unfold letterAt
  rw [ByteArray.size_extract]
  have : ABC.size = 16 := rfl
  omega

/-- A row of one's own that isn't empty begins at the head of a block. -/
theorem OwnG.head {α : Type} {K : El α} {w : World} {v : Value} {l : List α} (h : OwnG K w v l) (h0 : 0 < l.length) : ∃ g cap, v = .slice (some ⟨g, 0, none⟩) l.length cap ∧ ∀ (j : Nat) (x : α), l[j]? = some x → w.cell? ⟨g, j, none⟩ = some (K.f x) := by
  have h' := h
  rcases h.2 with ⟨rfl, e0⟩ | ⟨g, cap, cur, rfl, -⟩
  · omega
  refine ⟨g, cap, rfl, fun j x hj => ?_⟩
  have := World.ownsRow.cells h' (g := g) rfl j _ (cg_get l j x hj)
  rw [Addr.add_lit] at this
  have e : (0 : Nat) + j = j := by omega
  rw [e] at this
  exact this

theorem greats_get (k i : Nat) (h : i < k) : (greats k)[i]? = some (letterAt i) := by
  unfold greats
  rw [List.getElem?_map, List.getElem?_range h]
  rfl
end Go.Proofs.Ytabiagheflkiaaa
