/- A number's groups with one more behind them, and a byte of the call's own slice that is turned. -/
import Derived.Test.YtcgkifiijjmaiaaBack
namespace Go.Proofs.Ytcgkifiijjmaiaa
open Go.RowKit

theorem rd_long (f n i acc : Nat) (hf : f + i = 9) (hn : n < 2 ^ (7 * f + 1)) : ∃ pre t, en f n = pre ++ [t] ∧ t < 128 ∧ rd (pre ++ [t + 128] ++ [0]) i acc = (0, 31, 0) := by
  induction f generalizing n i acc with
  | zero =>
    have hi : i = 9 := by omega
    subst hi
    have hn' : n < 2 := by simpa using hn
    refine ⟨[], n, en_small 0 n (by omega), by omega, ?_⟩
    simp [rd]
  | succ f ih =>
    by_cases h : n < 128
    · refine ⟨[], n, en_small _ n h, h, ?_⟩
      have hi : ¬ i = 9 := by omega
      simp [rd, hi]
    · rw [en_step f n (by omega)]
      obtain ⟨pre, t, h1, h2, h3⟩ := ih (n / 128) (i + 1) (acc + (n % 128 + 128 - 128) * 2 ^ (7 * i)) (by omega) (by
        rw [show 7 * (f + 1) + 1 = 7 + (7 * f + 1) by omega, Nat.pow_add] at hn
        omega)
      refine ⟨(n % 128 + 128) :: pre, t, by rw [h1]; rfl, h2, ?_⟩
      have hi : ¬ i = 9 := by omega
      rw [List.cons_append, List.cons_append, rd]
      rw [if_neg (by simp [hi]), if_neg (by omega)]
      exact h3

theorem or_small (t : Nat) (h : t < 128) : bits .or .u8 (t : Int) 128 = ((t + 128 : Nat) : Int) := by
  have := or8 t
  rw [show t % 128 = t by omega] at this
  rw [← this]
  congr 1
  omega

theorem Own.set {w : World} {g n cap : Nat} {l : List Nat} (h : Own w (.slice (some ⟨g, 0, none⟩) n cap) l) (i c : Nat) :
    Own (w.setCell ⟨g, i, none⟩ (.int .u8 (c : Int))) (.slice (some ⟨g, 0, none⟩) n cap) (l.set i c) := by
  refine ⟨by rw [cl_length, List.length_set]; omega, ?_⟩
  rcases h.2 with ⟨e, _⟩ | ⟨g', cap', cur, e, hb, hgg, hn, hm, hs, ht⟩
  · simp at e
  · simp only [Value.slice.injEq, Option.some.injEq, Addr.mk.injEq, and_true] at e
    obtain ⟨rfl, rfl, rfl⟩ := e
    refine .inr ⟨g, cap, cur.setIfInBounds i (.int .u8 (c : Int)), by rw [List.length_set], hb, ?_, by rw [List.length_set]; exact hn, hm, by rw [Array.size_setIfInBounds]; exact hs, ?_⟩
    · simp only [World.setCell, Array.getElem?_modify]
      rw [if_pos trivial, hgg]
      simp
    · rw [List.length_set, Array.toList_setIfInBounds, List.take_set, ht]
      unfold cl
      rw [List.map_set]

theorem Own.head {w : World} {v : Value} {l : List Nat} (h : Own w v l) (hl : l ≠ []) : ∃ g cap, v = .slice (some ⟨g, 0, none⟩) l.length cap ∧ l.length ≤ cap ∧ cap ≤ maxLen := by
  rcases h.2 with ⟨_, h0⟩ | ⟨g, cap, cur, rfl, hb, hgg, hn, hm, hs, ht⟩
  · exact absurd (List.eq_nil_of_length_eq_zero h0) hl
  · exact ⟨g, cap, rfl, hn, hm⟩

theorem Own.cell {w : World} {g n cap : Nat} {l : List Nat} (h : Own w (.slice (some ⟨g, 0, none⟩) n cap) l) (i c : Nat) (hi : l[i]? = some c) : w.cell? ⟨g, i, none⟩ = some (.int .u8 (c : Int)) := by
  have := World.ownsRow.cells h (g := g) rfl i (.int .u8 (c : Int)) (by unfold cl; rw [List.getElem?_map, hi]; rfl)
  rw [Addr.add_lit] at this
  simpa using this

theorem Own.free {w : World} {g n cap : Nat} {l : List Nat} (h : Own w (.slice (some ⟨g, 0, none⟩) n cap) l) (i : Nat) : w.frozen? ⟨g, i, none⟩ = false := by
  rcases h.2 with ⟨e, _⟩ | ⟨g', cap', cur, e, hb, hgg, hn, hm, hs, ht⟩
  · simp at e
  · simp only [Value.slice.injEq, Option.some.injEq, Addr.mk.injEq, and_true] at e
    obtain ⟨rfl, rfl, rfl⟩ := e
    exact frozen_of_row w g i cur 5 hgg

theorem set_last (pre : List Nat) (t c : Nat) : (pre ++ [t]).set pre.length c = pre ++ [c] := by
  rw [List.set_append_right _ _ (Nat.le_refl _)]
  simp

theorem src_zero (w : World) (a : Addr) (u : Value) : Src Try.prog 1 26 (.slice (some ⟨w.heap.size, 0, none⟩) 1 1) ([0] : List Nat).length (cl [0]) ((w.setCell a u).alloc (.cells #[.int .u8 0] 5)) := by
  have h := src_one (w.setCell a u) 0
  have e : (w.setCell a u).heap.size = w.heap.size := by simp [World.setCell]
  rw [e] at h
  exact h

/-- A slice of one's own out of none; a byte of it turned; one more byte behind it. -/
theorem grown_twice {w w4 w5 w7 : World} {g n cap i : Nat} {c : Int} {v7 : Value} (f4 : Fr no w w4) (s5 : Sp no (.slice none 0 0) w4 (.slice (some ⟨g, 0, none⟩) n cap) w5)
    (s7 : Sp no (.slice (some ⟨g, 0, none⟩) n cap) ((w5.setCell ⟨g, i, none⟩ (.int .u8 c)).alloc (.cells #[.int .u8 0] 5)) v7 w7) : Fr no w w7 := by
  have hg : w.heap.size ≤ g := by
    rcases Nat.lt_or_ge g w4.heap.size with h | h
    · have := s5.2 g h rfl
      simp [Value.ownBlock] at this
    · exact Nat.le_trans f4.size h
  have f5 : Fr no w w5 := f4.new s5.1 (fun i _ s => s.elim id (fun e => by simp [Value.ownBlock] at e))
  have f6 : Fr no w ((w5.setCell ⟨g, i, none⟩ (.int .u8 c)).alloc (.cells #[.int .u8 0] 5)) := (f5.setCell (p := ⟨g, i, none⟩) (fun h => absurd h (by simp; omega)) _).alloc _ _
  exact f6.new s7.1 (fun i hi s => s.elim id (fun e => by simp [Value.ownBlock] at e; omega))
end Go.Proofs.Ytcgkifiijjmaiaa
