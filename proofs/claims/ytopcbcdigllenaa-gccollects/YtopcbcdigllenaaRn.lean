/- The two arenas: what each call leaves of both. -/
import Derived.Test.YtopcbcdigllenaaRm
namespace Go.Proofs.Ytopcbcdigllenaa
open Go.ChangeShapes Go.WideShapes Go.ChangeAt Go.RowKit

/-- Both arenas in memory. -/
structure Hf (w wr : World) (p g q n : Nat) (bs : List Blk) (T : List Ob) : Prop where
  hp : HP wr p g bs
  rr : RR wr q g (n : Int) T
  rb : RB w.heap.size wr q T
  gb : w.heap.size ≤ g
  fr : Fr no w wr

/-- A step's box: what, a, b, v. -/
def Bx (w : World) (s : Nat) (x : Int × Int × Int × Nat) : Prop := w.heap[s]? = some (.cells #[.int .i64 x.1, .int .i64 x.2.1, .int .i64 x.2.2.1, .int .u64 (x.2.2.2 : Int)] 30 (0, 0))

theorem Hf.keep {w wr w' : World} {p g q n : Nat} {bs : List Blk} {T : List Ob} (h : Hf w wr p g q n bs T) (f : Fr no wr w') : Hf w w' p g q n bs T := by
  refine ⟨h.hp.keep f, h.rr.keep f, ⟨h.rb.low, fun v hv k hk => ?_, h.rb.b⟩, h.gb, h.fr.and f⟩
  obtain ⟨v0, -, -, hc0⟩ := h.rr.cellv
  have := f.cell hc0 (fun x => x)
  rw [hv] at this
  simp only [Option.some.injEq] at this
  subst this
  exact h.rb.v _ hc0 k hk

theorem Bx.keep {S : Nat → Prop} {w w' : World} {s : Nat} {x : Int × Int × Int × Nat} (h : Bx w s x) (f : Fr S w w') (hs : ¬ S s) : Bx w' s x := f.heap h hs

/-- The program's arena turns. -/
theorem Hf.prog {w wr w' : World} {p g q n : Nat} {bs bs' : List Blk} {T : List Ob} (h : Hf w wr p g q n bs T) (hp : HP w' p g bs') (f : Fr (fun k => k = g) wr w') : Hf w w' p g q n bs' T ∧ ∀ s x, Bx wr s x → Bx w' s x := by
  refine ⟨⟨hp, h.rr.beside h.hp.row f, ⟨h.rb.low, fun v hv k hk => ?_, h.rb.b⟩, h.gb, h.fr.new f (fun i hi e => by have := h.gb; omega)⟩, fun s x hb => hb.keep f (fun e => ?_)⟩
  · obtain ⟨v0, hq0, -, hc0⟩ := h.rr.cellv
    have hne : q ≠ g := fun e => by
      have := h.hp.row
      rw [← e, hq0] at this
      simp at this
    have := f.cell hc0 hne
    rw [hv] at this
    simp only [Option.some.injEq] at this
    subst this
    exact h.rb.v _ hc0 k hk
  · subst e
    have := h.hp.row
    rw [hb] at this
    simp at this

/-- The document's arena turns. -/
theorem Hf.doc {w wr w' : World} {p g q n : Nat} {bs : List Blk} {T T' : List Ob} (h : Hf w wr p g q n bs T) (rr : RR w' q g (n : Int) T') (rb : RB w.heap.size w' q T') (f : Fr (TS w.heap.size wr) wr w') : Hf w w' p g q n bs T' ∧ ∀ s x, Bx wr s x → Bx w' s x := by
  have key : ∀ k cs t, wr.heap[k]? = some (.cells cs t (0, 0)) → t ≠ 43 → t ≠ 40 → ¬ TS w.heap.size wr k := fun k cs t hk h1 h2 hts => by
    obtain ⟨-, cs', t', hk', hh⟩ := hts
    rw [hk] at hk'
    simp only [Option.some.injEq, Obj.cells.injEq] at hk'
    rw [← hk'.2.1] at hh
    rcases hh with hh | hh
    · exact h1 hh
    · exact h2 hh
  exact ⟨⟨h.hp.kept f (key _ _ _ h.hp.hd (by decide) (by decide)) (key _ _ _ h.hp.row (by decide) (by decide)), rr, rb, h.gb, h.fr.new f (fun i hi hts => by have := hts.1; omega)⟩, fun s x hb => hb.keep f (key _ _ _ hb (by decide) (by decide))⟩

/-- Both, and of one arena. -/
structure Pl (w wr : World) (p g q n : Nat) (bs : List Blk) (T : List Ob) : Prop where
  hf : Hf w wr p g q n bs T
  lk : Linked n bs T
  cl : ∀ o ∈ T, o.cls < 9223372036854775808

theorem find_at {n : Nat} {bs : List Blk} {T : List Ob} (h : Linked n bs T) (a : Int) : (findO T a).isSome = beg bs a := by
  rw [Bool.eq_iff_iff]
  constructor
  · intro hs
    obtain ⟨i, hi⟩ := Option.isSome_iff_exists.1 hs
    obtain ⟨x, hx, hxa, -⟩ := find_split hi
    rw [beg_obj, ← hxa, (h.at_ hx).1]
    rfl
  · intro hb
    have hm := mem_objsA.2 hb
    rw [objsA_eq, ← h.told, List.map_map, List.mem_map] at hm
    obtain ⟨o, ho, hoa⟩ := hm
    obtain ⟨i, hi⟩ := List.mem_iff_getElem?.1 ho
    cases hf : findO T a with
    | some j => rfl
    | none =>
      unfold findO at hf
      rw [List.findIdx?_eq_none_iff] at hf
      have := hf o ho
      simp only [Function.comp, Ob.told] at hoa
      simp [hoa] at this

/-- Release, of both. -/
theorem Linked.release {n : Nat} {bs : List Blk} {T : List Ob} (h : Linked n bs T) (a : Int) : Linked n (freeB bs a) (match findO T a with | some i => T.take i ++ T.drop (i + 1) | none => T) := by
  have hfa := find_at h a
  cases hf : findO T a with
  | none =>
    rw [hf] at hfa
    rw [free_none hfa.symm]
    exact h
  | some i =>
    rw [hf] at hfa
    obtain ⟨f1, f2, -, A, B, c, ws, f4, f5⟩ := free_some hfa.symm
    obtain ⟨x, hx, hxa, -⟩ := find_split hf
    refine ⟨?_, f2, by rw [f1, h.size], h.le⟩
    simp only []
    rw [f5, List.map_append, List.map_take, List.map_drop, h.told]
    have hk : (objL 0 bs)[i]? = some (a, c, ws) := by
      have hg : (objL 0 bs)[i]? = some x.told := by rw [← h.told, List.getElem?_map, hx]; rfl
      have h1 := (h.at_ hx).1
      have h2 : objAt bs a = some (c, ws) := by
        have := objAt_mem (k := 0) (bs := bs) (x := a) (c := c) (ws := ws)
        simp only [Int.natCast_zero, Int.sub_zero] at this
        rw [this, f4]
        simp
      rw [hxa, h2] at h1
      simp only [Option.some.injEq, Prod.mk.injEq] at h1
      rw [hg]
      simp only [Ob.told, hxa, h1.1, h1.2]
    have hnd : (objL 0 bs).Nodup := (objL_rise 0 bs).imp (fun hlt e => by rw [e] at hlt; omega)
    exact (cut_at hnd hk f4).symm

/-- Alloc, of both, where there is room. -/
theorem Linked.alloc {n : Nat} {bs : List Blk} {T : List Ob} (h : Linked n bs T) {c m o : Nat} (hr : roomAt m bs = some o) :
    ∃ A B, T = A ++ B ∧ (∀ x ∈ A, x.at_ < (o : Int) + 1) ∧ (∀ x ∈ B, ¬ x.at_ < (o : Int) + 1) ∧ m ≤ 2048 ∧ ∀ b, Linked n (allocB c m bs) (A ++ ⟨(o : Int) + 1, c, List.replicate m 0, b⟩ :: B) := by
  obtain ⟨a1, a2, -, -, A, B, a5, a6, a7, a8, a9⟩ := alloc_some (c := c) hr
  have ht := h.told
  rw [a5, List.map_eq_append_iff] at ht
  obtain ⟨A', B', rfl, hA, hB⟩ := ht
  have := h.le
  rw [h.size] at a9
  refine ⟨A', B', rfl, fun x hx => ?_, fun x hx => ?_, by omega, fun b => ⟨?_, a2 h.tight, by rw [a1, h.size], h.le⟩⟩
  · have := a7 x.told (by rw [← hA]; exact List.mem_map.2 ⟨x, hx, rfl⟩)
    exact this
  · have := a8 x.told (by rw [← hB]; exact List.mem_map.2 ⟨x, hx, rfl⟩)
    simp only [Ob.told] at this
    omega
  · rw [a6, List.map_append, List.map_cons, hA, hB]
    rfl
end Go.Proofs.Ytopcbcdigllenaa
