/- Memory, for the layer's proofs: what a step leaves as it was; rows that the calls themselves have made, or that are read; one law on append; goto. -/
import Derived.Test.YtmpahllkbpofnaaRows
import Derived.WalkKit
import Derived.ProofKit
import Derived.WalkMore
import Derived.Deep.AppendSrc
import Derived.BigRegion
import Derived.BigQuiet
import Derived.Deep.QuietTactic
import Derived.Deep.RegionWith
import Derived.Deep.RegionHeld3
import Derived.Lib.SliceRun
import Derived.WalkLawsBesides
import Derived.ScopeJumps
namespace Go.Proofs.Ytmpahllkbpofnaa
open Go.ChangeShapes Go.WideShapes Go.ChangeAt Go.RowKit

/-- From w to w' the blocks in S alone may have turned; there may be new ones; no mark of a frozen cell that was there has turned. -/
structure Fr (S : Nat → Prop) (w w' : World) : Prop where
  os : w'.os = w.os
  output : w'.output = w.output
  size : w.heap.size ≤ w'.heap.size
  block : ∀ k, k < w.heap.size → ¬ S k → w'.heap[k]? = w.heap[k]?
  frozen : ∀ a, a.block < w.heap.size → w'.frozen? a = w.frozen? a

theorem Fr.refl (S : Nat → Prop) (w : World) : Fr S w w := ⟨rfl, rfl, Nat.le_refl _, fun _ _ _ => rfl, fun _ _ => rfl⟩

theorem Fr.trans {S T U : Nat → Prop} {a b c : World} (h : Fr S a b) (k : Fr T b c) (hS : ∀ i, i < a.heap.size → S i → U i) (hT : ∀ i, i < a.heap.size → T i → U i) : Fr U a c :=
  ⟨k.os.trans h.os, k.output.trans h.output, Nat.le_trans h.size k.size,
    fun i hi hu => (k.block i (Nat.lt_of_lt_of_le hi h.size) (fun t => hu (hT i hi t))).trans (h.block i hi (fun t => hu (hS i hi t))),
    fun x hx => (k.frozen x (Nat.lt_of_lt_of_le hx h.size)).trans (h.frozen x hx)⟩

theorem Fr.mono {S U : Nat → Prop} {a b : World} (h : Fr S a b) (hS : ∀ i, i < a.heap.size → S i → U i) : Fr U a b :=
  h.trans (Fr.refl S b) hS hS

theorem Fr.alloc {S : Nat → Prop} {a w : World} (h : Fr S a w) (c : Array Value) (t : TypeId) : Fr S a (w.alloc (.cells c t)) :=
  ⟨h.os, h.output, Nat.le_trans h.size (by show w.heap.size ≤ (w.heap.push _).size; simp), fun k hk hs => (Below.heap_alloc w _ k (Nat.lt_of_lt_of_le hk h.size)).trans (h.block k hk hs),
    fun x hx => (frozen?_alloc_cells _ _ _ x).trans (h.frozen x hx)⟩

theorem Fr.drew {S : Nat → Prop} {a w : World} (h : Fr S a w) : Fr S a w.drew := ⟨h.os, h.output, h.size, h.block, h.frozen⟩

theorem frozen_setCell (w : World) (p : Addr) (u : Value) (a : Addr) : (w.setCell p u).frozen? a = w.frozen? a := by
  unfold World.frozen? World.setCell
  simp only [Array.getElem?_modify]
  by_cases hx : p.block = a.block
  · rw [if_pos hx]
    cases e : w.heap[a.block]? with
    | none => simp
    | some o => cases o <;> simp
  · rw [if_neg hx]

theorem frozen_setRow (w : World) (g : Nat) (cs : Array Value) (x : Addr) : (w.setRow g cs).frozen? x = w.frozen? x := by
  unfold World.frozen? World.setRow
  simp only [Array.getElem?_modify]
  by_cases hx : g = x.block
  · rw [if_pos hx]
    cases e : w.heap[x.block]? with
    | none => simp
    | some o => cases o <;> simp
  · rw [if_neg hx]

theorem Fr.setCell {S : Nat → Prop} {a w : World} (h : Fr S a w) {p : Addr} (hp : p.block < a.heap.size → S p.block) (u : Value) : Fr S a (w.setCell p u) :=
  ⟨h.os, h.output, by simpa [World.setCell] using h.size, fun k hk hs => (Below.heap_setCell w p u k (fun e => hs (e ▸ hp (e ▸ hk)))).trans (h.block k hk hs),
    fun x hx => (frozen_setCell w p u x).trans (h.frozen x hx)⟩

theorem Fr.cell {S : Nat → Prop} {w w' : World} (h : Fr S w w') {p : Addr} {u : Value} (hc : w.cell? p = some u) (hp : ¬ S p.block) : w'.cell? p = some u :=
  (World.cell?_of_block (h.block p.block (World.block_lt_of_cell? w p hc) hp)).trans hc

theorem lt_of_heap {w : World} {k : Nat} {o : Obj} (h : w.heap[k]? = some o) : k < w.heap.size := (Array.getElem?_eq_some_iff.1 h).1

theorem Fr.heap {S : Nat → Prop} {w w' : World} (h : Fr S w w') {k : Nat} {o : Obj} (hc : w.heap[k]? = some o) (hp : ¬ S k) : w'.heap[k]? = some o :=
  (h.block k (lt_of_heap hc) hp).trans hc

def no : Nat → Prop := fun _ => False

/-- All memory from c on. -/
def From (c : Nat) : Nat → Prop := fun k => c ≤ k

theorem Fr.new {S : Nat → Prop} {w w1 w2 : World} (h : Fr no w w1) (k : Fr S w1 w2) (hS : ∀ i, i < w.heap.size → ¬ S i) : Fr no w w2 :=
  h.trans k (fun _ _ f => f) (fun i hi s => absurd s (hS i hi))

theorem Fr.and {w w1 w2 : World} (h : Fr no w w1) (k : Fr no w1 w2) : Fr no w w2 := h.new k (fun _ _ f => f)

theorem Fr.up {S : Nat → Prop} {w w1 : World} (h : Fr no w w1) : Fr S w w1 := h.mono (fun _ _ f => f.elim)

theorem Fr.frm {c : Nat} {w w1 w2 : World} (h : Fr (From c) w w1) (k : Fr (From c) w1 w2) : Fr (From c) w w2 := h.trans k (fun _ _ f => f) (fun _ _ f => f)

/-- A step that may turn memory from where the world ended alone. -/
theorem Fr.fresh {w w1 w2 : World} (h : Fr no w w1) (k : Fr (From w.heap.size) w1 w2) : Fr no w w2 := h.new k (fun i hi f => by unfold From at f; omega)


theorem Fr.drewN {S : Nat → Prop} {a w : World} (h : Fr S a w) (n : Nat) : Fr S a (w.drewN n) := ⟨h.os, h.output, h.size, h.block, h.frozen⟩

/-- A kind of elements: the slice's type, the element's, how many cells it has, its zero value, its bytes, its cells. -/
structure El (α : Type) where
  t : TypeId
  e : TypeId
  n : Nat
  z : Value
  b : Nat
  f : α → List Value

structure El.Ok {α : Type} (K : El α) : Prop where
  und : Try.prog.underlying K.t = some (.slice K.e)
  info : (Try.prog.info? K.e).map (fun i => (i.zero, i.size, i.bytes)) = some (some K.z, K.n, K.b)
  len : ∀ x, (K.f x).length = K.n
  one : ∀ x, ∀ u ∈ K.f x, u.oneCell' = true
  zlen : K.z.cells.size = K.n
  bs : K.b ≤ 256
  pos : 0 < K.n

variable {α : Type} {K : El α}

/-- The cells of these elements. -/
def cg (K : El α) (l : List α) : List Value := l.flatMap K.f

theorem cg_append (l m : List α) : cg K l ++ cg K m = cg K (l ++ m) := by unfold cg; simp

theorem cg_length (hK : K.Ok) (l : List α) : (cg K l).length = l.length * K.n := by
  induction l with
  | nil => simp [cg]
  | cons x l ih =>
    have : cg K (x :: l) = K.f x ++ cg K l := rfl
    rw [this, List.length_append, ih, hK.len, List.length_cons, Nat.add_mul, Nat.one_mul, Nat.add_comm]

theorem cg_get (hK : K.Ok) (l : List α) (i : Nat) (x : α) (h : l[i]? = some x) (j : Nat) (u : Value) (hj : (K.f x)[j]? = some u) : (cg K l)[i * K.n + j]? = some u := by
  induction l generalizing i with
  | nil => simp at h
  | cons y l ih =>
    have e : cg K (y :: l) = K.f y ++ cg K l := rfl
    have hjn : j < K.n := by
      rw [← hK.len x]
      exact (List.getElem?_eq_some_iff.1 hj).1
    rw [e]
    cases i with
    | zero =>
      simp at h
      subst h
      rw [Nat.zero_mul, Nat.zero_add, List.getElem?_append_left (by rw [hK.len]; exact hjn)]
      exact hj
    | succ i =>
      have := ih i (by simpa using h)
      rw [List.getElem?_append_right (by rw [hK.len, Nat.add_mul]; omega), hK.len]
      rw [show (i + 1) * K.n + j - K.n = i * K.n + j by rw [Nat.add_mul]; omega]
      exact this

theorem cg_one (hK : K.Ok) (l : List α) : ∀ u ∈ cg K l, u.oneCell' = true := by
  intro u hu
  obtain ⟨x, _, h⟩ := List.mem_flatMap.1 hu
  exact hK.one x u h

/-- v is nil, or lies in a row of such elements that isn't frozen, up to the row's end; they are l. -/
def OwnG (K : El α) (w : World) (v : Value) (l : List α) : Prop :=
  (v = .slice none 0 0 ∧ l = []) ∨ ∃ g o cap cur, v = .slice (some ⟨g, o, none⟩) l.length cap ∧ w.heap[g]? = some (.cells cur K.e (0, 0)) ∧ l.length ≤ cap ∧ cap ≤ maxLen ∧
    o + cap * K.n ≤ cur.size ∧ (cur.toList.drop o).take (l.length * K.n) = cg K l

theorem OwnG.nil (K : El α) (w : World) : OwnG K w (.slice none 0 0) [] := .inl ⟨rfl, rfl⟩

theorem OwnG.form {w : World} {v : Value} {l : List α} (h : OwnG K w v l) : ∃ o cap, v = .slice o l.length cap := by
  rcases h with ⟨rfl, rfl⟩ | ⟨g, o, cap, cur, rfl, _⟩
  · exact ⟨_, _, rfl⟩
  · exact ⟨_, _, rfl⟩

/-- The block of such a row is of that kind. -/
theorem OwnG.tag {w : World} {v : Value} {l : List α} (h : OwnG K w v l) {k : Nat} (hk : v.ownBlock = some k) : ∃ cur, w.heap[k]? = some (.cells cur K.e (0, 0)) := by
  rcases h with ⟨rfl, _⟩ | ⟨g, o, cap, cur, rfl, hgg, _⟩
  · simp [Value.ownBlock] at hk
  · simp [Value.ownBlock] at hk
    subst hk
    exact ⟨cur, hgg⟩

theorem OwnG.lt {w : World} {v : Value} {l : List α} (h : OwnG K w v l) {k : Nat} (hk : v.ownBlock = some k) : k < w.heap.size := by
  obtain ⟨cur, hc⟩ := h.tag hk
  exact lt_of_heap hc

theorem OwnG.kept {S : Nat → Prop} {w w' : World} {v : Value} {l : List α} (h : OwnG K w v l) (hf : Fr S w w') (hS : ∀ k, v.ownBlock = some k → ¬ S k) : OwnG K w' v l := by
  rcases h with hn | ⟨g, o, cap, cur, rfl, hgg, rest⟩
  · exact .inl hn
  · exact .inr ⟨g, o, cap, cur, rfl, hf.heap hgg (hS g rfl), rest⟩

theorem OwnG.keep {w w' : World} {v : Value} {l : List α} (h : OwnG K w v l) (hf : Fr no w w') : OwnG K w' v l := h.kept hf (fun _ _ f => f)

/-- The cells of such a row, one by one. -/
theorem OwnG.cells {w : World} {l : List α} {g o n cap : Nat} (h : OwnG K w (.slice (some ⟨g, o, none⟩) n cap) l) (j : Nat) (u : Value) (hj : (cg K l)[j]? = some u) : w.cell? ⟨g, o + j, none⟩ = some u := by
  rcases h with ⟨hn, _⟩ | ⟨g', o', cap', cur, he, hgg, _, _, _, ht⟩
  · simp at hn
  · simp only [Value.slice.injEq, Option.some.injEq, Addr.mk.injEq] at he
    obtain ⟨⟨rfl, rfl, _⟩, _, rfl⟩ := he
    rw [← ht, List.getElem?_take] at hj
    split at hj
    · rw [List.getElem?_drop] at hj
      unfold World.cell?
      simp only [hgg]
      simpa using hj
    · simp at hj

/-- A step that may turn the row of v, and leaves v' in v's place: v' lies in v's row or in new memory. -/
def Sp (v : Value) (w : World) (v' : Value) (w' : World) : Prop :=
  Fr (fun k => v.ownBlock = some k) w w' ∧ ∀ k, k < w.heap.size → v'.ownBlock = some k → v.ownBlock = some k

theorem run_apdG (hK : K.Ok) (w : World) (v : Value) (l : List α) (hown : OwnG K w v l) (x : Value) (m : List α) (hs : Src Try.prog K.n K.t x m.length (cg K m) w)
    (hb : l.length + m.length ≤ 1000000) :
    ∃ v' w', (Builtin.append_ #[K.t, K.t] K.t #[v, x]).run Try.prog w = .ok v' w' ∧ OwnG K w' v' (l ++ m) ∧ Sp v w v' w' := by
  obtain ⟨i0, hi, hz0, hz1, hz2⟩ := info_parts hK.info
  have ht := hK.und
  have hlen : (cg K (l ++ m)).length = (l ++ m).length * K.n := cg_length hK _
  have hbs := hK.bs
  have hbb : (l.length + m.length) * K.b ≤ 1000000 * 256 := Nat.mul_le_mul hb hbs
  have grown : ∀ (b : Option Addr) (sCap : Nat), v = .slice b l.length sCap → sCap < l.length + m.length →
      (Builtin.firstCells i0.size l.length (.slice b l.length sCap)).run Try.prog w.drew = .ok (cg K l).toArray w.drew →
      ∃ v' w', (Builtin.append_ #[K.t, K.t] K.t #[v, x]).run Try.prog w = .ok v' w' ∧ OwnG K w' v' (l ++ m) ∧ Sp v w v' w' := by
    intro b sCap hv hlt hold
    subst hv
    have hr := run_append_grow_src (P := Try.prog) w K.t K.t K.t K.e i0 K.z ht hi hz0 b l.length sCap (cg K l) hold x m.length (cg K m) (by rw [hz1]; exact hs) hlt (by omega)
      (by rw [hz2]; exact growslice_fits (by omega) (by omega))
    have hge := grownCap_ge w (l.length + m.length) sCap K.e
    have hcm : grownCap w (l.length + m.length) sCap K.e ≤ maxLen := grownCap_le_maxLen w _ sCap K.e (by unfold maxLen; omega)
    refine ⟨_, _, hr, .inr ⟨w.heap.size, 0, grownCap w (l.length + m.length) sCap K.e, _, ?_, heap_alloc_new w.drew _, ?_, hcm, ?_, ?_⟩, ?_⟩
    · simp
    · simpa using hge
    · simp only [Array.size_append, List.size_toArray, size_zeroCells, List.length_append, cg_length hK]
      rw [hK.zlen]
      obtain ⟨d, hd⟩ : ∃ d, grownCap w (l.length + m.length) sCap K.e = (l.length + m.length) + d := ⟨_, (Nat.add_sub_of_le hge).symm⟩
      rw [hd, Nat.add_sub_cancel_left, Nat.add_mul, Nat.add_mul]
      omega
    · rw [cg_append, Array.toList_append, List.drop_zero]
      simp only []
      rw [List.take_append_of_le_length (by rw [cg_length hK]; omega)]
      exact List.take_of_length_le (by rw [cg_length hK]; omega)
    · exact ⟨(Fr.refl _ w).drew.alloc _ _, fun k hk e => by simp [Value.ownBlock] at e; omega⟩
  have hown' := hown
  rcases hown with ⟨hv, hl⟩ | ⟨g, o, cap, cur, hv, hg, hnc, hcm, hcs, htake⟩
  · by_cases hm : m.length = 0
    · have hmn : m = [] := List.eq_nil_of_length_eq_zero hm
      subst hmn hl hv
      refine ⟨.slice none 0 0, w, ?_, OwnG.nil K w, ⟨Fr.refl _ _, fun _ _ h => h⟩⟩
      have h1 := hs.len
      have h2 := hs.cells
      rcases hs.kind with ⟨e', hk⟩ | hk <;> simp at h1 h2 <;> simp [Builtin.append_, run_underlying ht, sizeOf, typeInfo, hi, hz1, h1, h2, cg]
    · subst hl
      refine grown none 0 (by rw [hv]; rfl) (by simp; omega) ?_
      simpa [cg] using run_firstCells_none (P := Try.prog) w.drew i0.size 0 0 0
  · by_cases hroom : l.length + m.length ≤ cap
    · subst hv
      have hfit : o + l.length * K.n + (cg K m).length ≤ cur.size := by
        rw [cg_length hK, Nat.add_assoc, ← Nat.add_mul]
        exact Nat.le_trans (Nat.add_le_add_left (Nat.mul_le_mul_right _ hroom) _) hcs
      have hst := run_storeCells_at Try.prog g (o + l.length * i0.size) K.e (cg K m) 0 cur w hg (by rw [hz1]; omega) (cg_one hK m)
      simp only [Nat.add_zero] at hst
      refine ⟨.slice (some ⟨g, o, none⟩) (l.length + m.length) cap, w.setRow g (cur.toList.take (o + l.length * i0.size) ++ cg K m ++ cur.toList.drop (o + l.length * i0.size + (cg K m).length)).toArray, ?_, .inr ⟨g, o, cap, _, by simp, setRow_heap w g cur _ K.e _ hg, by simpa using hroom, hcm, ?_, ?_⟩, ?_⟩
      · rcases hs.kind with ⟨e', hk⟩ | hk <;> simp [Builtin.append_, run_underlying ht, sizeOf, typeInfo, hi, hs.len, hroom, hz1, hs.cells, Addr.add_lit] <;> (rw [hz1] at hst; simp at hst; simp [hst])
      · simp only [List.size_toArray, List.length_append, List.length_take, List.length_drop, Array.length_toList, hz1]
        omega
      · rw [hz1]
        have hd : (cur.toList.take (o + l.length * K.n) ++ cg K m ++ cur.toList.drop (o + l.length * K.n + (cg K m).length)).drop o = cg K (l ++ m) ++ cur.toList.drop (o + l.length * K.n + (cg K m).length) := by
          rw [List.append_assoc, List.drop_append_of_le_length (by simp; omega), List.drop_take, show o + l.length * K.n - o = l.length * K.n by omega, htake, ← cg_append, List.append_assoc]
        simp only []
        rw [hd, ← hlen]
        exact List.take_left
      · exact ⟨⟨rfl, rfl, by rw [setRow_size]; exact Nat.le_refl _, fun k hk hs => setRow_other w g k _ (fun e => hs (by simp [Value.ownBlock, e])), fun a _ => frozen_setRow w g _ a⟩, fun k _ e => by simpa [Value.ownBlock] using e⟩
    · refine grown (some ⟨g, o, none⟩) cap hv (by omega) ?_
      rw [hz1]
      subst hv
      refine run_firstCells_some (P := Try.prog) w.drew K.n l.length ⟨g, o, none⟩ l.length cap (cg K l) (cg_length hK l) ?_
      intro j u hj
      rw [Addr.add_lit]
      exact hown'.cells j u hj

theorem wpList_apdG (hK : K.Ok) (w : World) {ops : Array Oper} {rest : List Oper} {o : Oper} {a : Act} {Q : Exit → Act → World → Prop}
    (hg : o.guard = none) (ht : o.type = K.t) (s x : Operand) (hop : o.op = Op.call { callee := Callee.builtin Builtin.append, args := #[s, x], argTypes := #[K.t, K.t] })
    (v : Value) (l : List α) (hs : a.eval s = v) (hown : OwnG K w v l) (xv : Value) (hx : a.eval x = xv) (m : List α) (hsrc : Src Try.prog K.n K.t xv m.length (cg K m) w)
    (hb : l.length + m.length ≤ 1000000)
    (hK' : ∀ v' w', OwnG K w' v' (l ++ m) → Sp v w v' w' → wpList Try.prog ops Q rest (a.put o.dst v') w') :
    wpList Try.prog ops Q (o :: rest) a w := by
  refine wpList_plain hg fun K2 hK2 => ?_
  obtain ⟨v', w', hrun, r1, r2⟩ := run_apdG hK w v l hown xv m hsrc hb
  unfold Oper.wp
  simp [execOp, hop, ht, resolve, invoke, builtin, hs, hx, hrun, Result.andThen]
  exact hK2 _ _ (hK' v' w' r1 r2)

theorem srcG_one (hK : K.Ok) (w : World) (x : α) : Src Try.prog K.n K.t (.slice (some ⟨w.heap.size, 0, none⟩) 1 1) ([x] : List α).length (cg K [x]) (w.alloc (.cells (K.f x).toArray K.e)) :=
  Src.ofSlice _ hK.und _ _ _ _ (by simp [cg, hK.len]) (fun j u hj => by
    have hj' : (K.f x)[j]? = some u := by simpa [cg] using hj
    have hb : (w.alloc (.cells (K.f x).toArray K.e)).heap[w.heap.size]? = some (.cells (K.f x).toArray K.e (0, 0)) := heap_alloc_new w _
    rw [Addr.add_lit]
    unfold World.cell?
    simp only [hb]
    simpa using hj') (cg_one hK _)

/-- v is a slice whose elements are l. -/
def SlG (K : El α) (w : World) (v : Value) (l : List α) : Prop :=
  ∃ ad cap, v = .slice ad l.length cap ∧ l.length ≤ cap ∧ cap ≤ maxLen ∧ (ad = none → l = [] ∧ cap = 0) ∧
    ∀ a, ad = some a → a.spot = none ∧ ∀ (j : Nat) (u : Value), (cg K l)[j]? = some u → w.cell? ⟨a.block, a.off + j, none⟩ = some u

theorem SlG.form {w : World} {v : Value} {l : List α} (h : SlG K w v l) : ∃ o c, v = .slice o l.length c := by
  obtain ⟨ad, cap, e, _⟩ := h
  exact ⟨ad, cap, e⟩

theorem SlG.keep {w w' : World} {v : Value} {l : List α} (h : SlG K w v l) (hf : Fr no w w') : SlG K w' v l := by
  obtain ⟨ad, cap, rfl, h1, h2, h0, h3⟩ := h
  exact ⟨ad, cap, rfl, h1, h2, h0, fun a e => ⟨(h3 a e).1, fun j u hj => hf.cell ((h3 a e).2 j u hj) (fun f => f)⟩⟩

theorem SlG.kept {S : Nat → Prop} {w w' : World} {v : Value} {l : List α} (h : SlG K w v l) (hf : Fr S w w') (hS : ∀ k, v.ownBlock = some k → ¬ S k) : SlG K w' v l := by
  obtain ⟨ad, cap, rfl, h1, h2, h0, h3⟩ := h
  refine ⟨ad, cap, rfl, h1, h2, h0, fun a e => ⟨(h3 a e).1, fun j u hj => hf.cell ((h3 a e).2 j u hj) ?_⟩⟩
  subst e
  exact hS a.block rfl

theorem OwnG.sl {w : World} {v : Value} {l : List α} (h : OwnG K w v l) : SlG K w v l := by
  have h' := h
  rcases h with ⟨rfl, rfl⟩ | ⟨g, o, cap, cur, rfl, hgg, hn, hm, hs, ht⟩
  · exact ⟨none, 0, rfl, Nat.zero_le _, Nat.zero_le _, fun _ => ⟨rfl, rfl⟩, fun a e => by simp at e⟩
  · refine ⟨_, cap, rfl, hn, hm, fun e => by simp at e, fun a e => ?_⟩
    simp only [Option.some.injEq] at e
    subst e
    exact ⟨rfl, fun j u hj => h'.cells j u hj⟩

theorem SlG.src (hK : K.Ok) {w : World} {v : Value} {l : List α} (h : SlG K w v l) : Src Try.prog K.n K.t v l.length (cg K l) w := by
  obtain ⟨ad, cap, rfl, h1, h2, h0, h3⟩ := h
  cases ad with
  | none =>
    obtain ⟨rfl, rfl⟩ := h0 rfl
    exact Src.ofNil _ hK.und _
  | some a =>
    obtain ⟨b, off, el⟩ := a
    obtain ⟨h4, h3⟩ := h3 _ rfl
    simp only [] at h4
    subst h4
    refine Src.ofSlice _ hK.und _ _ _ _ (cg_length hK l) (fun j u hj => ?_) (cg_one hK _)
    rw [Addr.add_lit]
    exact h3 j u hj

theorem own_empty (w : World) : OwnG K (w.alloc (.cells #[] K.e)) (.slice (some ⟨w.heap.size, 0, none⟩) 0 0) [] :=
  .inr ⟨w.heap.size, 0, 0, #[], rfl, heap_alloc_new w _, Nat.le_refl _, Nat.zero_le _, by simp, by simp [cg]⟩

/-- A row that a literal has made. -/
theorem own_lit (hK : K.Ok) (w : World) (l : List α) (cs : Array Value) (hc : cs = (cg K l).toArray) (h : l.length ≤ maxLen) : OwnG K (w.alloc (.cells cs K.e)) (.slice (some ⟨w.heap.size, 0, none⟩) l.length l.length) l := by
  subst hc
  refine .inr ⟨w.heap.size, 0, l.length, (cg K l).toArray, rfl, heap_alloc_new w _, Nat.le_refl _, h, by simp [cg_length hK], ?_⟩
  rw [← cg_length hK]
  simp

theorem take_next {α : Type} (l : List α) (k : Nat) (x : α) (h : l[k]? = some x) : l.take (k + 1) = l.take k ++ [x] := by
  rw [List.take_add_one, h]
  rfl

/-- v's row is none that w has. -/
def NewV (w : World) (v : Value) : Prop := ∀ k, v.ownBlock = some k → w.heap.size ≤ k

theorem NewV.nil (w : World) : NewV w (.slice none 0 0) := fun k h => by simp [Value.ownBlock] at h

/-- Behind an append to new memory there is new memory alone. -/
theorem NewV.step {S : Nat → Prop} {w wr w' : World} {v v' : Value} (h : NewV w v) (f : Fr S w wr) (s : Sp v wr v' w') : NewV w v' ∧ Fr S w w' := by
  refine ⟨fun k hk => ?_, f.trans s.1 (fun _ _ x => x) (fun i hi e => ?_)⟩
  · by_cases hlt : k < wr.heap.size
    · exact h k (s.2 k hlt hk)
    · have := f.size
      omega
  · have := h i e
    omega

/-- A token: its kind, its place, its text, a whole number, a complex one. -/
structure Tk where
  kind : Int
  at_ : Int
  text : ByteArray
  num : Int
  re : Nat
  im : Nat

def tkL (x : Tk) : List Value := [.int .i64 x.kind, .int .i64 x.at_, .string x.text, .int .i64 x.num, .complex .f64 x.re x.im]
def tkV (x : Tk) : Value := .agg #[.int .i64 x.kind, .int .i64 x.at_, .string x.text, .int .i64 x.num, .complex .f64 x.re x.im]

def elK : El Tk := ⟨23, 35, 5, .agg #[.int .i64 0, .int .i64 0, .string "".toUTF8, .int .i64 0, .complex .f64 0 0], 56, tkL⟩
theorem elK_ok : elK.Ok where
  und := Try.underlying23
  info := by kernel_rfl
  len := fun _ => rfl
  one := fun x u hu => by simp [elK, tkL] at hu; rcases hu with rfl | rfl | rfl | rfl | rfl <;> rfl
  zlen := by kernel_rfl
  bs := by decide
  pos := by decide

section
variable {P : Program} {a : Act} {w : World} {Q : Exit → Act → World → Prop}

/-- As Q; by a goto to a label l: J l. -/
def jumps (J : Nat → Act → World → Prop) (Q : Exit → Act → World → Prop) : Exit → Act → World → Prop
  | .goto l, a, w => J l a w
  | e, a, w => Q e a w

theorem wp_labels {c : Code} (J : Nat → Act → World → Prop) (μ : Nat → Act → World → Nat)
    (first : c.wp P (jumps J Q) a w)
    (pass : ∀ l a w, J l a w → ∃ R, findLabel c l = some (.seq .skip R) ∧ R.wp P (jumps (fun l' a' w' => J l' a' w' ∧ μ l' a' w' < μ l a w) Q) a w) : (Code.scope c).wp P Q a w := by
  intro b k cs
  have key : ∀ n l a w, μ l a w = n → J l a w → ∃ e a' w', Q e a' w' ∧ ∃ k0, gotoIn l (.inScope c :: k) = some k0 ∧ Arrives P (lone (b.at a k0) cs w) b k cs e a' w' := by
    intro n
    induction n using Nat.strongRecOn with
    | _ n ih =>
      intro l a w hn hJ
      obtain ⟨R, hf, hR⟩ := pass l a w hJ
      have hg : gotoIn l (.inScope c :: k) = some (.code (.seq .skip R) :: .inScope c :: k) := by simp [gotoIn, hf]
      obtain ⟨e, a₁, w₁, hq, harr⟩ := hR b (.inScope c :: k) cs
      have hs : Steps P (lone (b.at a (.code (.seq .skip R) :: .inScope c :: k)) cs w) (lone (b.at a (.code R :: .inScope c :: k)) cs w) :=
        .head step_seq (.one step_skip)
      have harr' := Arrives.of_steps hs harr
      cases e with
      | normal => exact ⟨.normal, a₁, w₁, hq, _, hg, Steps.trans harr' (.one step_inScope)⟩
      | exit id => exact ⟨.exit id, a₁, w₁, hq, _, hg, fun k' hk => harr' k' (by simp [exitTo, hk])⟩
      | goto l' =>
        obtain ⟨hJ', hlt⟩ := hq
        obtain ⟨e₂, a₂, w₂, hq₂, k2, hg2, harr₂⟩ := ih _ (by omega) l' a₁ w₁ rfl hJ'
        exact ⟨e₂, a₂, w₂, hq₂, _, hg, .of_steps (harr' _ hg2) harr₂⟩
      | ret => exact ⟨_, a₁, w₁, hq, _, hg, harr'⟩
      | panic ch => exact ⟨_, a₁, w₁, hq, _, hg, harr'⟩
      | outgrown => exact ⟨_, a₁, w₁, hq, _, hg, harr'⟩
  obtain ⟨e, a₁, w₁, hq, harr⟩ := first b (.inScope c :: k) cs
  cases e with
  | normal => exact ⟨.normal, a₁, w₁, hq, .head step_scope (Steps.trans harr (.one step_inScope))⟩
  | exit id => exact ⟨.exit id, a₁, w₁, hq, fun k' hk => .head step_scope (harr k' (by simp [exitTo, hk]))⟩
  | goto l' =>
    obtain ⟨e₂, a₂, w₂, hq₂, k2, hg2, harr₂⟩ := key _ l' a₁ w₁ rfl hq
    exact ⟨e₂, a₂, w₂, hq₂, .of_steps (.head step_scope (harr _ hg2)) harr₂⟩
  | ret => exact ⟨_, a₁, w₁, hq, .of_steps (.one step_scope) harr⟩
  | panic ch => exact ⟨_, a₁, w₁, hq, .of_steps (.one step_scope) harr⟩
  | outgrown => exact ⟨_, a₁, w₁, hq, .of_steps (.one step_scope) harr⟩

/-- One label. 'K': what is wanted behind, a letter: the walks carry nothing of it. -/
theorem wp_label_one {c R0 : Code} (l0 : Nat) (J0 : Act → World → Prop) (μ : Act → World → Nat) (hf0 : findLabel c l0 = some (.seq .skip R0))
    (first : ∀ K : Exit → Act → World → Prop, (∀ a w, J0 a w → R0.wp P K a w) → (∀ a w, Q .ret a w → K .ret a w) → (∀ a w, Q .normal a w → K .normal a w) → c.wp P K a w)
    (pass0 : ∀ a w, J0 a w → ∀ K : Exit → Act → World → Prop, (∀ a' w', J0 a' w' → μ a' w' < μ a w → K (.goto l0) a' w') → (∀ a w, Q .ret a w → K .ret a w) → (∀ a w, Q .normal a w → K .normal a w) → R0.wp P K a w) :
    (Code.scope c).wp P Q a w := by
  refine wp_labels (fun l a w => l = l0 ∧ J0 a w) (fun _ => μ) ?_ ?_
  · exact first _ (fun a w h => pass0 a w h _ (fun _ _ h' _ => ⟨rfl, h'⟩) (fun _ _ h' => h') (fun _ _ h' => h')) (fun _ _ h => h) (fun _ _ h => h)
  · rintro l a w ⟨rfl, h⟩
    exact ⟨R0, hf0, pass0 a w h _ (fun _ _ h' hl => ⟨⟨rfl, h'⟩, hl⟩) (fun _ _ h' => h') (fun _ _ h' => h')⟩

/-- Two labels, the second of them left by a return, with no jump behind it. -/
theorem wp_label_two {c R0 R1 : Code} (l0 l1 : Nat) (hne : l1 ≠ l0) (J0 J1 : Act → World → Prop) (μ : Act → World → Nat) (hf0 : findLabel c l0 = some (.seq .skip R0)) (hf1 : findLabel c l1 = some (.seq .skip R1))
    (first : ∀ K : Exit → Act → World → Prop, (∀ a w, J0 a w → R0.wp P K a w) → (∀ a w, J1 a w → K (.goto l1) a w) → (∀ a w, Q .ret a w → K .ret a w) → c.wp P K a w)
    (pass0 : ∀ a w, J0 a w → ∀ K : Exit → Act → World → Prop, (∀ a' w', J0 a' w' → μ a' w' < μ a w → K (.goto l0) a' w') → (∀ a w, J1 a w → K (.goto l1) a w) → (∀ a w, Q .ret a w → K .ret a w) → R0.wp P K a w)
    (pass1 : ∀ a w, J1 a w → ∀ K : Exit → Act → World → Prop, (∀ a w, Q .ret a w → K .ret a w) → R1.wp P K a w) :
    (Code.scope c).wp P Q a w := by
  refine wp_labels (fun l a w => l = l0 ∧ J0 a w ∨ l = l1 ∧ J1 a w) (fun l a w => if l = l0 then μ a w + 1 else 0) ?_ ?_
  · exact first _ (fun a w h => pass0 a w h _ (fun _ _ h' _ => Or.inl ⟨rfl, h'⟩) (fun _ _ h' => Or.inr ⟨rfl, h'⟩) (fun _ _ h' => h')) (fun _ _ h' => Or.inr ⟨rfl, h'⟩) (fun _ _ h => h)
  · rintro l a w (⟨rfl, hj⟩ | ⟨rfl, hj⟩)
    · refine ⟨R0, hf0, pass0 a w hj _ (fun a' w' h' hl => ⟨Or.inl ⟨rfl, h'⟩, ?_⟩) (fun a' w' h' => ⟨Or.inr ⟨rfl, h'⟩, ?_⟩) (fun _ _ h' => h')⟩
      · simp only [if_true]; omega
      · rw [if_pos rfl, if_neg hne]; omega
    · exact ⟨R1, hf1, pass1 a w hj _ (fun _ _ h' => h')⟩
end
end Go.Proofs.Ytmpahllkbpofnaa
