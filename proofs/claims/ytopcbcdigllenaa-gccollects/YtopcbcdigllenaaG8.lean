/- All that isn't seen is released: the arena behind it. -/
import Derived.Test.YtopcbcdigllenaaG7
import Derived.Test.YtopcbcdigllenaaAp
namespace Go.Proofs.Ytopcbcdigllenaa
open Go.ChangeShapes Go.WideShapes Go.ChangeAt Go.RowKit

def seenB (M : List Nat) (a : Int) : Bool := M[a.toNat]? == some 2

theorem seenL_eq (M : List Nat) (O : List Int) : seenL M O = O.filter (seenB M) := rfl

def relP (M : List Nat) (bs : List Blk) (L : List Int) : List Blk := L.foldl (fun b a => if seenB M a = true then b else freeB b a) bs

theorem relP_step (M : List Nat) (bs : List Blk) (L : List Int) (t : Nat) (x : Int) (h : L[t]? = some x) : relP M bs (L.take (t + 1)) = if seenB M x = true then relP M bs (L.take t) else freeB (relP M bs (L.take t)) x := by
  unfold relP
  rw [take_next L t x h, List.foldl_append]
  rfl

theorem free_filter (bs : List Blk) (a : Int) : objL 0 (freeB bs a) = (objL 0 bs).filter (fun y => decide (y.1 ≠ a)) := by
  cases hb : beg bs a with
  | true =>
    obtain ⟨-, -, -, A, B, c, ws, e1, e2⟩ := free_some hb
    have hr := objL_rise 0 bs
    rw [e1] at hr
    rw [e2, e1, List.filter_append, List.filter_cons]
    simp only [ne_eq, not_true_eq_false, decide_false, Bool.false_eq_true, if_false]
    rw [List.pairwise_append] at hr
    obtain ⟨-, h2, h3⟩ := hr
    rw [List.pairwise_cons] at h2
    congr 1
    · exact (List.filter_eq_self.2 (fun y hy => by
        have := h3 y hy (a, c, ws) List.mem_cons_self
        simp only [decide_eq_true_eq]
        intro e
        omega)).symm
    · exact (List.filter_eq_self.2 (fun y hy => by
        have := h2.1 y hy
        simp only [decide_eq_true_eq]
        intro e
        omega)).symm
  | false =>
    rw [free_none hb]
    refine (List.filter_eq_self.2 (fun y hy => ?_)).symm
    simp only [decide_eq_true_eq]
    rintro rfl
    obtain ⟨y1, y2, y3⟩ := y
    have := (objAt_mem (k := 0) (bs := bs) (x := y1) (c := y2) (ws := y3)).2 hy
    simp only [Int.natCast_zero, Int.sub_zero] at this
    rw [beg_obj, this] at hb
    simp at hb

theorem freeB_all (bs : List Blk) (a : Int) : siz (freeB bs a) = siz bs ∧ (tight false bs = true → tight false (freeB bs a) = true) := by
  cases hb : beg bs a with
  | true =>
    obtain ⟨h1, h2, -⟩ := free_some hb
    exact ⟨h1, fun _ => h2⟩
  | false =>
    rw [free_none hb]
    exact ⟨rfl, id⟩

theorem relP_all (M : List Nat) (bs : List Blk) (L : List Int) : siz (relP M bs L) = siz bs ∧ (tight false bs = true → tight false (relP M bs L) = true) ∧ objL 0 (relP M bs L) = (objL 0 bs).filter (fun y => decide (y.1 ∉ L ∨ seenB M y.1 = true)) := by
  induction L generalizing bs with
  | nil => exact ⟨rfl, id, (List.filter_eq_self.2 (fun y _ => by simp)).symm⟩
  | cons a r ih =>
    have e : relP M bs (a :: r) = relP M (if seenB M a = true then bs else freeB bs a) r := rfl
    rw [e]
    by_cases hs : seenB M a = true
    · rw [if_pos hs]
      obtain ⟨h1, h2, h3⟩ := ih bs
      refine ⟨h1, h2, ?_⟩
      rw [h3]
      apply List.filter_congr
      intro y _
      by_cases ey : y.1 = a
      · simp [ey, hs]
      · simp [ey]
    · rw [if_neg hs]
      obtain ⟨h1, h2, h3⟩ := ih (freeB bs a)
      obtain ⟨f1, f2⟩ := freeB_all bs a
      refine ⟨h1.trans f1, fun ht => h2 (f2 ht), ?_⟩
      rw [h3, free_filter, List.filter_filter]
      apply List.filter_congr
      intro y _
      by_cases ey : y.1 = a
      · simp [ey, hs]
      · simp [ey]

/-- What is left is what was seen, with all that it has. -/
theorem relP_left (M : List Nat) (bs : List Blk) : objL 0 (relP M bs (objsA 0 bs)) = (objL 0 bs).filter (fun y => seenB M y.1) := by
  rw [(relP_all M bs (objsA 0 bs)).2.2]
  apply List.filter_congr
  intro y hy
  have : y.1 ∈ objsA 0 bs := by rw [objsA_eq]; exact List.mem_map.2 ⟨y, hy, rfl⟩
  simp [this]

theorem relP_objs (M : List Nat) (bs : List Blk) : objsA 0 (relP M bs (objsA 0 bs)) = seenL M (objsA 0 bs) := by
  rw [objsA_eq, relP_left, objsA_eq, seenL_eq, List.filter_map]
  rfl

/-- A row that rises: the first that is seen among those from one on. -/
theorem seen_drop (M : List Nat) (O : List Int) (t : Nat) (x : Int) (h : O[t]? = some x) : seenL M (O.drop t) = (if seenB M x = true then [x] else []) ++ seenL M (O.drop (t + 1)) := by
  have e : O.drop t = x :: O.drop (t + 1) := by
    obtain ⟨hl, hx⟩ := List.getElem?_eq_some_iff.1 h
    rw [List.drop_eq_getElem_cons hl, hx]
  rw [e, seenL_eq, seenL_eq, List.filter_cons]
  split <;> rfl

theorem seen_first (M : List Nat) (O : List Int) (hr : O.Pairwise (fun x y => x < y)) (t : Nat) (x : Int) (h : O[t]? = some x) (y : Int) (r : List Int) (hy : seenL M (O.drop (t + 1)) = y :: r) : x < y := by
  have hm : y ∈ O.drop (t + 1) := by
    have : y ∈ seenL M (O.drop (t + 1)) := by rw [hy]; exact List.mem_cons_self
    exact (List.mem_filter.1 this).1
  have e : O.drop t = x :: O.drop (t + 1) := by
    obtain ⟨hl, hx⟩ := List.getElem?_eq_some_iff.1 h
    rw [List.drop_eq_getElem_cons hl, hx]
  have hd := hr.sublist (List.drop_sublist t O)
  rw [e, List.pairwise_cons] at hd
  exact hd.1 y hm
end Go.Proofs.Ytopcbcdigllenaa
