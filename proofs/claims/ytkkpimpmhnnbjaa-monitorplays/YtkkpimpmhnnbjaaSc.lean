/- Sorting a row of numbers of one's own. -/
import Derived.Test.YtkkpimpmhnnbjaaHe
import Derived.Test.YtkkpimpmhnnbjaaSrt
import Derived.Lib.SortBridge
namespace Go.Proofs.Ytkkpimpmhnnbjaa
open Go.ChangeShapes Go.WideShapes Go.ChangeAt Go.RowKit Go.Sort

/-- Cells set one behind the other. -/
theorem setCells_fr (b : Nat) : ∀ (vs : List Value) (o : Nat) (w : World), Fr (fun k => k = b) w (w.setCells b o vs)
  | [], _, _ => Fr.refl _ _
  | v :: r, o, w => (fr_set w b o v).trans (setCells_fr b r (o + 1) _) (fun _ _ e => e) (fun _ _ e => e)

theorem setCells_row (b : Nat) (t : TypeId) : ∀ (vs : List Value) (o : Nat) (w : World) (cur : Array Value), w.heap[b]? = some (.cells cur t (0, 0)) → o + vs.length ≤ cur.size →
    ∃ cur', (w.setCells b o vs).heap[b]? = some (.cells cur' t (0, 0)) ∧ cur'.size = cur.size ∧ (∀ j, j < o → cur'[j]? = cur[j]?) ∧ (cur'.toList.drop o).take vs.length = vs
  | [], o, w, cur, h, _ => ⟨cur, h, rfl, fun _ _ => rfl, by simp⟩
  | v :: r, o, w, cur, h, hs => by
    simp only [List.length_cons] at hs
    have h1 : (w.setCell ⟨b, o, none⟩ v).heap[b]? = some (.cells (cur.setIfInBounds o v) t (0, 0)) := by
      unfold World.setCell
      rw [Array.getElem?_modify, if_pos rfl, h]
      rfl
    obtain ⟨cur', h2, h3, h4, h5⟩ := setCells_row b t r (o + 1) _ _ h1 (by simp; omega)
    refine ⟨cur', h2, by simpa using h3, fun j hj => ?_, ?_⟩
    · rw [h4 j (by omega), Array.getElem?_setIfInBounds]
      rw [if_neg (by omega)]
    · have ho : cur'[o]? = some v := by
        rw [h4 o (by omega), Array.getElem?_setIfInBounds, if_pos rfl, if_pos (by omega)]
      have hlt : o < cur'.toList.length := by simp; simp at h3; omega
      rw [List.drop_eq_getElem_cons hlt, List.length_cons, List.take_succ_cons, h5]
      have : cur'.toList[o] = v := by
        have := ho
        rw [← Array.getElem?_toList, List.getElem?_eq_getElem hlt] at this
        exact Option.some.inj this
      rw [this]

theorem grow_fr {S : Nat → Prop} {a w : World} (h : Fr S a w) (os : Array Obj) : Fr S a (grow w os) := by
  have hb : ∀ k, k < w.heap.size → (grow w os).heap[k]? = w.heap[k]? := fun k hk => by
    show (w.heap ++ os)[k]? = _
    rw [Array.getElem?_append_left hk]
  exact ⟨h.os, h.output, Nat.le_trans h.size (by show w.heap.size ≤ (w.heap ++ os).size; simp), fun k hk hs => (hb k (Nat.lt_of_lt_of_le hk h.size)).trans (h.block k hk hs),
    fun x hx => (World.frozen?_of_block (hb _ (Nat.lt_of_lt_of_le hx h.size))).trans (h.frozen x hx)⟩

theorem cgI (l : List Int) : cg elI l = l.map (Value.int .i64) := by
  induction l with
  | nil => rfl
  | cons x l ih =>
    show elI.f x ++ cg elI l = _
    rw [ih]
    rfl

theorem sortC : SortC := by
  intro w v l ho hl
  have ho' := ho
  rcases ho with ⟨rfl, rfl⟩ | ⟨g, o, cap, cur, rfl, hg, hlc, hcm, hcs, htk⟩
  · refine (AnyM.slices_Sort_int_none Try.sort37 none 0 w).mono ?_
    rintro e w' ⟨rfl, rfl⟩
    exact ⟨rfl, by simpa using ho', Fr.refl _ _⟩
  · have hH : Holds (Value.int .i64) w g o l.toArray := fun j hj => by
      have hj' : j < l.length := by simpa using hj
      refine ⟨?_, by simp [World.frozen?, hg]⟩
      refine ho'.cells j _ ?_
      have : (cg elI l)[j]? = some (.int .i64 l[j]) := by
        rw [cgI]
        simp [hj']
      rw [this]
      simp [hj']
    refine (AnyM.slices_Sort_int Try.sort37 g o cap l w hH (lt_of_heap hg) (by omega)).mono ?_
    rintro e w' ⟨rfl, q, os, rfl⟩
    have hlen : (l.mergeSort fun x y => decide (x ≤ y)).length = l.length := List.length_mergeSort l
    rw [Lib.sorted_world (Value.int .i64) w g o q l.toArray _ os hH (by simp)]
    generalize (l.mergeSort fun x y => decide (x ≤ y)) = ys at hlen ⊢
    have hcg : cg elI ys = ys.map (Value.int .i64) := cgI ys
    have f1 : Fr (fun k => k = g) w ((w.drewN q).setCells g o (ys.map (Value.int .i64))) := ((Fr.refl (fun k => k = g) w).drewN q).trans (setCells_fr g _ o _) (fun _ _ e => e) (fun _ _ e => e)
    have hcs1 : o + cap * 1 ≤ cur.size := hcs
    obtain ⟨cur', h2, h3, h4, h5⟩ := setCells_row g 3 (ys.map (Value.int .i64)) o (w.drewN q) cur hg (by simp; omega)
    have h2' : (grow ((w.drewN q).setCells g o (ys.map (Value.int .i64))) os).heap[g]? = some (.cells cur' 3 (0, 0)) := by
      show (_ ++ os)[g]? = _
      rw [Array.getElem?_append_left (lt_of_heap h2)]
      exact h2
    refine ⟨rfl, .inr ⟨g, o, cap, cur', by rw [hlen], h2', by omega, hcm, by rw [h3]; exact hcs, ?_⟩, (grow_fr f1 os).mono (fun i _ e => by rw [e]; rfl)⟩
    rw [hcg]
    have : ys.length * elI.n = (ys.map (Value.int .i64)).length := by simp [elI]
    rw [this]
    exact h5
end Go.Proofs.Ytkkpimpmhnnbjaa
