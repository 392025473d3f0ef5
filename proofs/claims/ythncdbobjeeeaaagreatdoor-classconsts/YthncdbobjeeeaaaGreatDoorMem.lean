/- Memory, for the layer's proofs: slices of bytes that the calls themselves have made, what a step leaves as it was, and one law on append. -/
import Derived.Test.YthncdbobjeeeaaaGreatDoorRows
import Derived.WalkKit
import Derived.ProofKit
import Derived.WalkMore
import Derived.Deep.AppendSrc
namespace Go.Proofs.YthncdbobjeeeaaaGreatDoor
open Go.ChangeShapes Go.WideShapes Go.ChangeAt Go.RowKit

theorem Tryz.info5 : (Tryz.prog.info? 5).map (fun i => (i.zero, i.size, i.bytes)) = some (some (.int .u8 0), 1, 1) := by kernel_rfl

/-- The cells of these bytes. -/
def cl (l : List Nat) : List Value := l.map fun c : Nat => Value.int .u8 (c : Int)

theorem cl_length (l : List Nat) : (cl l).length = l.length := by unfold cl; simp

theorem cl_append (l m : List Nat) : cl l ++ cl m = cl (l ++ m) := by unfold cl; simp

theorem cl_get (l : List Nat) (i : Nat) (u : Value) (h : (cl l)[i]? = some u) : ∃ c, l[i]? = some c ∧ u = .int .u8 (c : Int) := by
  unfold cl at h
  rw [List.getElem?_map] at h
  cases e : l[i]? with
  | none => rw [e] at h; simp at h
  | some c => rw [e] at h; simp at h; exact ⟨c, rfl, h.symm⟩

theorem cl_one (l : List Nat) : ∀ u ∈ cl l, u.oneCell' = true := by
  intro u hu
  obtain ⟨_, _, rfl⟩ := List.mem_map.1 hu
  rfl

/-- From w to w' the blocks in S alone may have turned; there may be new ones; no mark of a frozen cell that was there has turned. -/
structure Fr (S : Nat → Prop) (w w' : World) : Prop where
  os : w'.os = w.os
  output : w'.output = w.output
  size : w.heap.size ≤ w'.heap.size
  block : ∀ k, k < w.heap.size → ¬ S k → w'.heap[k]? = w.heap[k]?
  frozen : ∀ a, a.block < w.heap.size → w'.frozen? a = w.frozen? a

theorem Fr.refl (S : Nat → Prop) (w : World) : Fr S w w := ⟨rfl, rfl, Nat.le_refl _, fun _ _ _ => rfl, fun _ _ => rfl⟩

theorem Fr.trans {S T U : Nat → Prop} {a b c : World} (h : Fr S a b) (k : Fr T b c) (hS : ∀ i, i < a.heap.size → S i → U i) (hT : ∀ i, i < a.heap.size → T i → U i) : Fr U a c :=
  ⟨k.os.trans h.os, k.output.trans h.output, Nat.le_trans h.size k.size,
    fun i hi hu => (k.block i (Nat.lt_of_lt_of_le hi h.size) (fun t => hu (hT i hi t))).trans (h.block i hi (fun t => hu (hS i hi t))),
    fun x hx => (k.frozen x (Nat.lt_of_lt_of_le hx h.size)).trans (h.frozen x hx)⟩

theorem Fr.mono {S U : Nat → Prop} {a b : World} (h : Fr S a b) (hS : ∀ i, i < a.heap.size → S i → U i) : Fr U a b :=
  h.trans (Fr.refl S b) hS hS

theorem Fr.alloc {S : Nat → Prop} {a w : World} (h : Fr S a w) (c : Array Value) (t : TypeId) : Fr S a (w.alloc (.cells c t)) :=
  ⟨h.os, h.output, Nat.le_trans h.size (by show w.heap.size ≤ (w.heap.push _).size; simp), fun k hk hs => (Below.heap_alloc w _ k (Nat.lt_of_lt_of_le hk h.size)).trans (h.block k hk hs),
    fun x hx => (frozen?_alloc_cells _ _ _ x).trans (h.frozen x hx)⟩

theorem Fr.drew {S : Nat → Prop} {a w : World} (h : Fr S a w) : Fr S a w.drew := ⟨h.os, h.output, h.size, h.block, h.frozen⟩

theorem frozen_setCell (w : World) (p : Addr) (u : Value) (a : Addr) : (w.setCell p u).frozen? a = w.frozen? a := by
  unfold World.frozen? World.setCell
  simp only [Array.getElem?_modify]
  by_cases hx : p.block = a.block
  · rw [if_pos hx]
    cases e : w.heap[a.block]? with
    | none => simp
    | some o => cases o <;> simp
  · rw [if_neg hx]

theorem frozen_setRow (w : World) (g : Nat) (cs : Array Value) (x : Addr) : (w.setRow g cs).frozen? x = w.frozen? x := by
  unfold World.frozen? World.setRow
  simp only [Array.getElem?_modify]
  by_cases hx : g = x.block
  · rw [if_pos hx]
    cases e : w.heap[x.block]? with
    | none => simp
    | some o => cases o <;> simp
  · rw [if_neg hx]

theorem Fr.setCell {S : Nat → Prop} {a w : World} (h : Fr S a w) {p : Addr} (hp : p.block < a.heap.size → S p.block) (u : Value) : Fr S a (w.setCell p u) :=
  ⟨h.os, h.output, by simpa [World.setCell] using h.size, fun k hk hs => (Below.heap_setCell w p u k (fun e => hs (e ▸ hp (e ▸ hk)))).trans (h.block k hk hs),
    fun x hx => (frozen_setCell w p u x).trans (h.frozen x hx)⟩

theorem Fr.cell {S : Nat → Prop} {w w' : World} (h : Fr S w w') {p : Addr} {u : Value} (hc : w.cell? p = some u) (hp : ¬ S p.block) : w'.cell? p = some u :=
  (World.cell?_of_block (h.block p.block (World.block_lt_of_cell? w p hc) hp)).trans hc

theorem lt_of_heap {w : World} {k : Nat} {o : Obj} (h : w.heap[k]? = some o) : k < w.heap.size := (Array.getElem?_eq_some_iff.1 h).1

theorem Fr.heap {S : Nat → Prop} {w w' : World} (h : Fr S w w') {k : Nat} {o : Obj} (hc : w.heap[k]? = some o) (hp : ¬ S k) : w'.heap[k]? = some o :=
  (h.block k (lt_of_heap hc) hp).trans hc

/-- v is nil, or begins at the head of a row of bytes that isn't frozen; its bytes are l. -/
def Own (w : World) (v : Value) (l : List Nat) : Prop := w.ownsRow 0 5 1 v l.length (cl l)

theorem Own.nil (w : World) : Own w (.slice none 0 0) [] := World.ownsRow_nil _ _ _ _

theorem Own.lt {w : World} {v : Value} {l : List Nat} (h : Own w v l) {k : Nat} (hk : v.ownBlock = some k) : k < w.heap.size := (World.ownsRow.lt h k hk).2

theorem Own.kept {S : Nat → Prop} {w w' : World} {v : Value} {l : List Nat} (h : Own w v l) (hf : Fr S w w') (hS : ∀ k, v.ownBlock = some k → ¬ S k) : Own w' v l := by
  refine ⟨h.1, ?_⟩
  rcases h.2 with hn | ⟨g, cap, cur, rfl, hb, hgg, rest⟩
  · exact .inl hn
  · exact .inr ⟨g, cap, cur, rfl, hb, hf.heap hgg (hS g rfl), rest⟩

/-- A step that may turn the blocks in q and the row of v, and leaves v' in v's place: v' lies in v's row or in new memory. -/
def Sp (q : Nat → Prop) (v : Value) (w : World) (v' : Value) (w' : World) : Prop :=
  Fr (fun k => q k ∨ v.ownBlock = some k) w w' ∧ ∀ k, k < w.heap.size → v'.ownBlock = some k → v.ownBlock = some k

theorem Sp.refl (q : Nat → Prop) (v : Value) (w : World) : Sp q v w v w := ⟨Fr.refl _ _, fun _ _ h => h⟩

theorem Sp.trans {q : Nat → Prop} {v v1 v2 : Value} {w w1 w2 : World} (h : Sp q v w v1 w1) (k : Sp q v1 w1 v2 w2) : Sp q v w v2 w2 :=
  ⟨h.1.trans k.1 (fun _ _ s => s) (fun i hi s => s.elim .inl (fun e => .inr (h.2 i hi e))),
    fun i hi e => h.2 i hi (k.2 i (Nat.lt_of_lt_of_le hi h.1.size) e)⟩

theorem Sp.mono {q q' : Nat → Prop} {v v' : Value} {w w' : World} (h : Sp q v w v' w') (hq : ∀ i, i < w.heap.size → q i → q' i) : Sp q' v w v' w' :=
  ⟨h.1.mono (fun i hi s => s.elim (fun a => .inl (hq i hi a)) .inr), h.2⟩

/-- New memory alone ahead of a step. -/
theorem Sp.after {q S : Nat → Prop} {v v' : Value} {w0 w w' : World} (hf : Fr S w0 w) (h : Sp q v w v' w') (hS : ∀ i, i < w0.heap.size → S i → q i) : Sp q v w0 v' w' :=
  ⟨hf.trans h.1 (fun i hi s => .inl (hS i hi s)) (fun _ _ s => s), fun k hk e => h.2 k (Nat.lt_of_lt_of_le hk hf.size) e⟩

theorem Sp.then {q S : Nat → Prop} {v v' : Value} {w w' w2 : World} (h : Sp q v w v' w') (hf : Fr S w' w2) (hS : ∀ i, i < w.heap.size → S i → q i) : Sp q v w v' w2 :=
  ⟨h.1.trans hf (fun _ _ s => s) (fun i hi s => .inl (hS i hi s)), h.2⟩

def no : Nat → Prop := fun _ => False

theorem run_apd (w : World) (v : Value) (l : List Nat) (hown : Own w v l) (tx : TypeId) (x : Value) (m : List Nat) (hs : Src Tryz.prog 1 tx x m.length (cl m) w)
    (hb : l.length + m.length ≤ 1099511627776) :
    ∃ v' w', (Builtin.append_ #[22, tx] 22 #[v, x]).run Tryz.prog w = .ok v' w' ∧ Own w' v' (l ++ m) ∧ Sp no v w v' w' := by
  obtain ⟨i0, hi, hz0, hz1, hz2⟩ := info_parts Tryz.info5
  have ht := Tryz.underlying22
  have hlen : (cl (l ++ m)).length = (l ++ m).length * 1 := by rw [cl_length]; omega
  have grown : ∀ (b : Option Addr) (sCap : Nat), v = .slice b l.length sCap → sCap < l.length + m.length →
      (Builtin.firstCells i0.size l.length (.slice b l.length sCap)).run Tryz.prog w.drew = .ok (cl l).toArray w.drew →
      ∃ v' w', (Builtin.append_ #[22, tx] 22 #[v, x]).run Tryz.prog w = .ok v' w' ∧ Own w' v' (l ++ m) ∧ Sp no v w v' w' := by
    intro b sCap hv hlt hold
    subst hv
    have hr := run_append_grow_src (P := Tryz.prog) w 22 tx 22 5 i0 (.int .u8 0) ht hi hz0 b l.length sCap (cl l) hold x m.length (cl m) (by rw [hz1]; exact hs) hlt (by omega)
      (by rw [hz2]; exact growslice_fits (by omega) (by omega))
    have hge := grownCap_ge w (l.length + m.length) sCap 5
    have hcm : grownCap w (l.length + m.length) sCap 5 ≤ maxLen := grownCap_le_maxLen w _ sCap 5 (by unfold maxLen; omega)
    refine ⟨_, _, hr, ⟨hlen, .inr ⟨w.heap.size, grownCap w (l.length + m.length) sCap 5, _, ?_, Nat.zero_le _, heap_alloc_new w.drew _, ?_, hcm, ?_, ?_⟩⟩, ?_⟩
    · simp
    · simpa using hge
    · simp only [Array.size_append, List.size_toArray, size_zeroCells, List.length_append, cl_length]
      have : (Value.cells (.int .u8 0)).size = 1 := rfl
      rw [this]
      omega
    · rw [cl_append, Array.toList_append]
      simp only []
      rw [List.take_append_of_le_length (by rw [cl_length]; omega)]
      exact List.take_of_length_le (by rw [cl_length]; omega)
    · exact ⟨(Fr.refl _ w).drew.alloc _ _, fun k hk e => by simp [Value.ownBlock] at e; omega⟩
  rcases hown.2 with ⟨hv, hl0⟩ | ⟨g, cap, cur, hv, hbg, hg, hnc, hcm, hcs, htake⟩
  · have hl : l = [] := List.eq_nil_of_length_eq_zero hl0
    by_cases hm : m.length = 0
    · have hmn : m = [] := List.eq_nil_of_length_eq_zero hm
      subst hmn hl hv
      refine ⟨.slice none 0 0, w, ?_, Own.nil w, Sp.refl _ _ _⟩
      have h1 := hs.len
      have h2 := hs.cells
      rcases hs.kind with ⟨e', hk⟩ | hk <;> simp at h1 h2 <;> simp [Builtin.append_, run_underlying ht, run_underlying hk, sizeOf, typeInfo, hi, hz1, h1, h2, cl]
    · refine grown none 0 (by rw [hv, hl0]) (by omega) ?_
      subst hl
      simpa [cl] using run_firstCells_none (P := Tryz.prog) w.drew i0.size 0 0 0
  · by_cases hroom : l.length + m.length ≤ cap
    · subst hv
      have hst := run_storeCells_at Tryz.prog g (l.length * i0.size) 5 (cl m) 0 cur w hg (by rw [hz1, cl_length]; omega) (cl_one m)
      simp only [Nat.add_zero] at hst
      refine ⟨.slice (some ⟨g, 0, none⟩) (l.length + m.length) cap, w.setRow g (cur.toList.take (l.length * i0.size) ++ cl m ++ cur.toList.drop (l.length * i0.size + (cl m).length)).toArray, ?_, ?_, ?_⟩
      · rcases hs.kind with ⟨e', hk⟩ | hk <;> simp [Builtin.append_, run_underlying ht, run_underlying hk, sizeOf, typeInfo, hi, hs.len, hroom, hz1, hs.cells, Addr.add_lit] <;> (rw [hz1] at hst; simp at hst; simp [hst])
      · refine ⟨hlen, .inr ⟨g, cap, _, by simp, hbg, setRow_heap w g cur _ 5 _ hg, by simpa using hroom, hcm, ?_, ?_⟩⟩
        · simp only [List.size_toArray, List.length_append, List.length_take, List.length_drop, Array.length_toList, cl_length, hz1]
          omega
        · rw [hz1, htake, cl_append]
          exact List.take_left' (by rw [cl_length]; omega)
      · exact ⟨⟨rfl, rfl, by rw [setRow_size]; exact Nat.le_refl _, fun k hk hs => setRow_other w g k _ (fun e => hs (.inr (by simp [Value.ownBlock, e]))), fun a _ => frozen_setRow w g _ a⟩, fun k _ e => by simpa [Value.ownBlock] using e⟩
    · refine grown (some ⟨g, 0, none⟩) cap hv (by omega) ?_
      rw [hz1]
      refine run_firstCells_some (P := Tryz.prog) w.drew 1 l.length ⟨g, 0, none⟩ l.length cap (cl l) (by rw [cl_length]; omega) ?_
      intro j u hj
      simpa using World.ownsRow.cells hown (g := g) (by rw [hv]; rfl) j u hj

theorem wpList_apd (w : World) {ops : Array Oper} {rest : List Oper} {o : Oper} {a : Act} {Q : Exit → Act → World → Prop}
    (hg : o.guard = none) (ht : o.type = 22) (s x : Operand) (tx : TypeId) (hop : o.op = Op.call { callee := Callee.builtin Builtin.append, args := #[s, x], argTypes := #[22, tx] })
    (v : Value) (l : List Nat) (hs : a.eval s = v) (hown : Own w v l) (xv : Value) (hx : a.eval x = xv) (m : List Nat) (hsrc : Src Tryz.prog 1 tx xv m.length (cl m) w)
    (hb : l.length + m.length ≤ 1099511627776)
    (hK : ∀ v' w', Own w' v' (l ++ m) → Sp no v w v' w' → wpList Tryz.prog ops Q rest (a.put o.dst v') w') :
    wpList Tryz.prog ops Q (o :: rest) a w := by
  refine wpList_plain hg fun K hK' => ?_
  obtain ⟨v', w', hrun, r1, r2⟩ := run_apd w v l hown tx xv m hsrc hb
  unfold Oper.wp
  simp [execOp, hop, ht, resolve, invoke, builtin, hs, hx, hrun, Result.andThen]
  exact hK' _ _ (hK v' w' r1 r2)
end Go.Proofs.YthncdbobjeeeaaaGreatDoor
