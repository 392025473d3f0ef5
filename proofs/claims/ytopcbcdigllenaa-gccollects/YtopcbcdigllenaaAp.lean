/- An arena that is filled and emptied, pure. -/
import Derived.Test.YtopcbcdigllenaaFi
namespace Go.Proofs.Ytopcbcdigllenaa

/-- The arena of two hundred words while it is filled: objects, then one free block. -/
def Row2 (i : Nat) (bs : List Blk) : Prop := ∃ os j, AllO os ∧ bs = os ++ [.free j] ∧ siz os + (j.length + 1) = 200 ∧ siz os ≤ 6 * i

theorem newB_pos (n : Nat) (h : n ≠ 0) : newB n = [.free (List.replicate (n - 1) 0)] := by
  unfold newB
  rw [if_neg h]

theorem row2_new : Row2 0 (newB 200) := by
  rw [newB_pos 200 (by decide)]
  exact ⟨[], List.replicate (200 - 1) 0, fun b hb => (List.not_mem_nil hb).elim, rfl, by rw [siz_nil, List.length_replicate], by rw [siz_nil]; exact Nat.zero_le _⟩

theorem row2_next {i : Nat} {bs : List Blk} (h : Row2 i bs) (hi : i < 30) (n : Nat) (hn : n ≤ 4) :
    ∃ o, roomAt n bs = some o ∧ Row2 (i + 1) (allocB 1 n bs) ∧ objsA 0 (allocB 1 n bs) = objsA 0 bs ++ [(o : Int) + 1] := by
  obtain ⟨os, j, ho, rfl, hs, hle⟩ := h
  have hr : roomAt n [Blk.free j] = some 0 := by
    rw [roomAt, if_pos (by simp [Blk.room]; omega)]
  have ha : allocB 1 n (os ++ [.free j]) = (os ++ [.obj 1 (List.replicate n 0)]) ++ [.free (j.drop (n + 2))] := by
    rw [allocB_objs ho, allocB, if_pos (by omega)]
    unfold carve
    rw [if_neg (by omega)]
    simp
  refine ⟨siz os, by rw [roomAt_objs ho, hr]; simp, ⟨os ++ [.obj 1 (List.replicate n 0)], j.drop (n + 2), ?_, ha, ?_, ?_⟩, ?_⟩
  · intro b hb
    rcases List.mem_append.1 hb with h | h
    · exact ho b h
    · simp at h
      rw [h]
      rfl
  · rw [siz_append, siz_cons, siz_nil]
    simp [Blk.len]
    omega
  · rw [siz_append, siz_cons, siz_nil]
    simp [Blk.len]
    omega
  · rw [ha]
    simp [objsA_eq, objL_append, objL]

theorem row2_tight {i : Nat} {bs : List Blk} (h : Row2 i bs) : tight false bs = true ∧ siz bs = 200 := by
  obtain ⟨os, j, ho, rfl, hs, -⟩ := h
  refine ⟨?_, by rw [siz_append, siz_cons, siz_nil]; simp only [Blk.len]; omega⟩
  by_cases e : os = []
  · rw [e]; rfl
  · rw [tight_objs ho false e]
    rfl

/-- No objects: one free block. -/
theorem no_objs {bs : List Blk} {n : Nat} (h : tight false bs = true) (ho : objsA 0 bs = []) (hs : siz bs = n) (hn : 0 < n) : freesA 0 bs = [(1, (n : Int))] := by
  match bs with
  | [] => simp [siz_nil] at hs; omega
  | .obj c ws :: r => simp [objsA] at ho
  | [.free j] =>
    rw [siz_cons, siz_nil] at hs
    simp [freesA]
    omega
  | .free i :: .free j :: r => simp [tight] at h
  | .free i :: .obj c ws :: r => simp [objsA] at ho

/-- One of a list without doubles, by its place. -/
theorem cut_at {α : Type} {l A B : List α} {a : α} {k : Nat} (hn : l.Nodup) (hk : l[k]? = some a) (he : l = A ++ a :: B) : A ++ B = l.take k ++ l.drop (k + 1) := by
  have hA : A.length = k := by
    have h1 : l[A.length]? = some a := by rw [he]; simp
    have hl1 := (List.getElem?_eq_some_iff.1 h1).1
    have hl2 := (List.getElem?_eq_some_iff.1 hk).1
    rw [List.getElem?_eq_getElem hl1] at h1
    rw [List.getElem?_eq_getElem hl2] at hk
    exact (List.getElem_inj hn).1 ((Option.some.inj h1).trans (Option.some.inj hk).symm)
  subst hA
  rw [he]
  simp

theorem free_cut {bs : List Blk} {a : Int} {k : Nat} (hk : (objsA 0 bs)[k]? = some a) :
    beg bs a = true ∧ objsA 0 (freeB bs a) = (objsA 0 bs).take k ++ (objsA 0 bs).drop (k + 1) := by
  have hb : beg bs a = true := mem_objsA.1 (List.mem_of_getElem? hk)
  refine ⟨hb, ?_⟩
  obtain ⟨-, -, -, A, B, c, ws, h1, h2⟩ := free_some hb
  rw [objsA_eq 0 (freeB bs a), h2, List.map_append]
  refine cut_at (objsA_nodup 0 bs) hk ?_
  rw [objsA_eq, h1]
  simp
end Go.Proofs.Ytopcbcdigllenaa
