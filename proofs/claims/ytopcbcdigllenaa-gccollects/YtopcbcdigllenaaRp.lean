/- Put of both arenas. -/
import Derived.Test.YtopcbcdigllenaaRo
namespace Go.Proofs.Ytopcbcdigllenaa
open Go.ChangeShapes Go.WideShapes Go.ChangeAt Go.RowKit

def Ob.word (x : Ob) (i v : Nat) : Ob := ⟨x.at_, x.cls, x.ws.set i v, x.blk⟩

theorem Linked.word {n : Nat} {bs : List Blk} {T : List Ob} (h : Linked n bs T) {k : Nat} {x : Ob} (hx : T[k]? = some x) (i v : Nat) : Linked n (putB bs x.at_ (i : Int) v) (T.set k (x.word i v)) := by
  obtain ⟨p1, p2, -⟩ := putB_all bs x.at_ (i : Int) v
  refine ⟨?_, by rw [p2]; exact h.tight, by rw [p1, h.size], h.le⟩
  have hg : (objL 0 bs)[k]? = some x.told := by rw [← h.told, List.getElem?_map, hx]; rfl
  obtain ⟨pre, post, he, ha⟩ := objAt_split (h.at_ hx).1
  have hnd : (objL 0 bs).Nodup := (objL_rise 0 bs).imp (fun hlt e => by rw [e] at hlt; omega)
  have e1 : objL 0 bs = objL 0 pre ++ x.told :: objL (0 + siz pre + (Blk.obj x.cls x.ws).len) post := by
    rw [he, objL_append, objL]
    simp only [Ob.told, ha]
    simp
  have e2 : objL 0 (putB bs x.at_ (i : Int) v) = objL 0 pre ++ (x.word i v).told :: objL (0 + siz pre + (Blk.obj x.cls x.ws).len) post := by
    rw [he, ha, putB_at, objL_append, objL]
    simp only [Ob.told, Ob.word, ha, Blk.len, List.length_set]
    simp
  have hk : k = (objL 0 pre).length := by
    have hlt : k < (objL 0 bs).length := (List.getElem?_eq_some_iff.1 hg).1
    refine (List.getElem?_inj hlt hnd).1 ?_
    rw [hg, e1]
    simp
  rw [List.map_set, h.told, e2, e1, hk]
  simp

theorem blk_set {T : List Ob} {k : Nat} {x : Ob} (hx : T[k]? = some x) (i v : Nat) : (T.set k (x.word i v)).map (·.blk) = T.map (·.blk) := by
  apply List.ext_getElem?
  intro j
  rw [List.getElem?_map, List.getElem?_map, List.getElem?_set]
  by_cases e : k = j
  · subst e
    have hlt : k < T.length := (List.getElem?_eq_some_iff.1 hx).1
    rw [if_pos rfl, if_pos hlt, hx]
    rfl
  · rw [if_neg e]

theorem cg_word {T : List Ob} {k : Nat} {x : Ob} (hx : T[k]? = some x) (i v : Nat) : cg elO (T.set k (x.word i v)) = cg elO T := by
  have e : (T.set k (x.word i v)).map elO.f = T.map elO.f := by
    apply List.ext_getElem?
    intro j
    rw [List.getElem?_map, List.getElem?_map, List.getElem?_set]
    by_cases e : k = j
    · subst e
      have hlt : k < T.length := (List.getElem?_eq_some_iff.1 hx).1
      rw [if_pos rfl, if_pos hlt, hx]
      simp [Ob.word, elO, Ob.sl]
    · rw [if_neg e]
  unfold cg
  rw [List.flatMap_def, List.flatMap_def, e]

theorem OwnG.word {w : World} {v' : Value} {T : List Ob} (h : OwnG elO w v' T) {k : Nat} {x : Ob} (hx : T[k]? = some x) (i v : Nat) : OwnG elO w v' (T.set k (x.word i v)) := by
  rcases h with ⟨-, e⟩ | ⟨g, o, cap, cur, rfl, h1, h2, h3, h4, h5⟩
  · subst e
    simp at hx
  · exact .inr ⟨g, o, cap, cur, by rw [List.length_set], h1, by rw [List.length_set]; exact h2, h3, h4, by rw [List.length_set, cg_word hx]; exact h5⟩

theorem row_set {w : World} {b : Nat} {ws : List Nat} (h : w.heap[b]? = some (.cells (cg elU ws).toArray 28 (0, 0))) (i v : Nat) : (w.setCell ⟨b, i, none⟩ (.int .u64 (v : Int))).heap[b]? = some (.cells (cg elU (ws.set i v)).toArray 28 (0, 0)) := by
  unfold World.setCell
  simp only [Array.getElem?_modify, if_true, h, cg_set]
  simp

/-- A word of the document's arena is written. -/
theorem Hf.word {w wr : World} {p g q n : Nat} {bs : List Blk} {T : List Ob} (h : Hf w wr p g q n bs T) {k : Nat} {x : Ob} (hx : T[k]? = some x) {b : Nat} (hb : x.blk = some b) (i v : Nat) :
    Hf w (wr.setCell ⟨b, i, none⟩ (.int .u64 (v : Int))) p g q n bs (T.set k (x.word i v)) ∧ ∀ s y, Bx wr s y → Bx (wr.setCell ⟨b, i, none⟩ (.int .u64 (v : Int))) s y := by
  have F : Fr (fun k => k = b) wr (wr.setCell ⟨b, i, none⟩ (.int .u64 (v : Int))) := (Fr.refl (fun k => k = b) wr).setCell (p := ⟨b, i, none⟩) (fun _ => rfl) _
  have hxm : x ∈ T := List.mem_of_getElem? hx
  obtain ⟨b', hb', hbg, hrow⟩ := h.rr.wd x hxm
  rw [hb] at hb'
  simp only [Option.some.injEq] at hb'
  subst hb'
  have hrow' := row_set hrow i v
  obtain ⟨v0, hq0, ho0, hc0⟩ := h.rr.cellv
  have key : ∀ k cs t, wr.heap[k]? = some (.cells cs t (0, 0)) → t ≠ 28 → k ≠ b := fun k cs t hk ht e => by
    rw [e, hrow] at hk
    simp only [Option.some.injEq, Obj.cells.injEq] at hk
    exact ht hk.2.1.symm
  have hqb : q ≠ b := key _ _ _ hq0 (by decide)
  have hv0 : ∀ k, v0.ownBlock = some k → ¬ k = b := fun k hk => by
    obtain ⟨cur, hc⟩ := ho0.tag hk
    exact key _ _ _ hc (by decide)
  have hbase : w.heap.size ≤ b := h.rb.b x hxm b hb
  generalize wr.setCell ⟨b, i, none⟩ (.int .u64 (v : Int)) = w' at *
  refine ⟨⟨h.hp.kept F (key _ _ _ h.hp.hd (by decide)) (fun e => hbg e.symm), ⟨⟨v0, F.heap hq0 hqb, (ho0.kept F hv0).word hx i v⟩, fun o ho => ?_, by rw [blk_set hx]; exact h.rr.dup⟩, ⟨h.rb.low, fun u hu k hk => ?_, fun o ho k hk => ?_⟩, h.gb, h.fr.new F (fun i hi e => by omega)⟩, fun s y hs => F.heap hs (key _ _ _ hs (by decide))⟩
  · obtain ⟨j, hj⟩ := List.mem_iff_getElem?.1 ho
    rw [List.getElem?_set] at hj
    by_cases e : k = j
    · subst e
      have hlt : k < T.length := (List.getElem?_eq_some_iff.1 hx).1
      simp only [if_true, hlt, Option.some.injEq] at hj
      subst hj
      exact ⟨b, hb, hbg, hrow'⟩
    · rw [if_neg e] at hj
      obtain ⟨b2, hb2, hg2, hr2⟩ := h.rr.wd o (List.mem_of_getElem? hj)
      refine ⟨b2, hb2, hg2, F.heap hr2 (fun e2 => e ?_)⟩
      subst e2
      have hlt : k < (T.map (·.blk)).length := by rw [List.length_map]; exact (List.getElem?_eq_some_iff.1 hx).1
      refine (List.getElem?_inj hlt h.rr.dup).1 ?_
      rw [List.getElem?_map, List.getElem?_map, hx, hj]
      simp [hb, hb2]
  · have := F.cell hc0 hqb
    rw [hu] at this
    simp only [Option.some.injEq] at this
    subst this
    exact h.rb.v _ hc0 k hk
  · have hm : o.blk ∈ (T.set _ (x.word i v)).map (·.blk) := List.mem_map.2 ⟨o, ho, rfl⟩
    rw [blk_set hx] at hm
    obtain ⟨o', ho', he⟩ := List.mem_map.1 hm
    exact h.rb.b o' ho' k (by rw [he]; exact hk)
end Go.Proofs.Ytopcbcdigllenaa
