/- Memory, for the layer's proofs: what a step leaves as it was; rows of texts and of numbers that the calls themselves have made, or that are read; one law on append. -/
import Derived.Test.YtabiagheflkiaaaRows
import Derived.WalkKit
import Derived.ProofKit
import Derived.WalkMore
import Derived.Deep.AppendSrc
import Derived.Maps.OwnSet
namespace Go.Proofs.Ytabiagheflkiaaa
open Go.ChangeShapes Go.WideShapes Go.ChangeAt Go.RowKit

/-- From w to w' the blocks in S alone may have turned; there may be new ones; no mark of a frozen cell that was there has turned. -/
structure Fr (S : Nat → Prop) (w w' : World) : Prop where
  os : w'.os = w.os
  output : w'.output = w.output
  size : w.heap.size ≤ w'.heap.size
  block : ∀ k, k < w.heap.size → ¬ S k → w'.heap[k]? = w.heap[k]?
  frozen : ∀ a, a.block < w.heap.size → w'.frozen? a = w.frozen? a

theorem Fr.refl (S : Nat → Prop) (w : World) : Fr S w w := ⟨rfl, rfl, Nat.le_refl _, fun _ _ _ => rfl, fun _ _ => rfl⟩

theorem Fr.trans {S T U : Nat → Prop} {a b c : World} (h : Fr S a b) (k : Fr T b c) (hS : ∀ i, i < a.heap.size → S i → U i) (hT : ∀ i, i < a.heap.size → T i → U i) : Fr U a c :=
  ⟨k.os.trans h.os, k.output.trans h.output, Nat.le_trans h.size k.size,
    fun i hi hu => (k.block i (Nat.lt_of_lt_of_le hi h.size) (fun t => hu (hT i hi t))).trans (h.block i hi (fun t => hu (hS i hi t))),
    fun x hx => (k.frozen x (Nat.lt_of_lt_of_le hx h.size)).trans (h.frozen x hx)⟩

theorem Fr.mono {S U : Nat → Prop} {a b : World} (h : Fr S a b) (hS : ∀ i, i < a.heap.size → S i → U i) : Fr U a b :=
  h.trans (Fr.refl S b) hS hS

theorem Fr.alloc {S : Nat → Prop} {a w : World} (h : Fr S a w) (c : Array Value) (t : TypeId) : Fr S a (w.alloc (.cells c t)) :=
  ⟨h.os, h.output, Nat.le_trans h.size (by show w.heap.size ≤ (w.heap.push _).size; simp), fun k hk hs => (Below.heap_alloc w _ k (Nat.lt_of_lt_of_le hk h.size)).trans (h.block k hk hs),
    fun x hx => (frozen?_alloc_cells _ _ _ x).trans (h.frozen x hx)⟩

theorem Fr.drew {S : Nat → Prop} {a w : World} (h : Fr S a w) : Fr S a w.drew := ⟨h.os, h.output, h.size, h.block, h.frozen⟩

theorem frozen_setCell (w : World) (p : Addr) (u : Value) (a : Addr) : (w.setCell p u).frozen? a = w.frozen? a := by
  unfold World.frozen? World.setCell
  simp only [Array.getElem?_modify]
  by_cases hx : p.block = a.block
  · rw [if_pos hx]
    cases e : w.heap[a.block]? with
    | none => simp
    | some o => cases o <;> simp
  · rw [if_neg hx]

theorem frozen_setRow (w : World) (g : Nat) (cs : Array Value) (x : Addr) : (w.setRow g cs).frozen? x = w.frozen? x := by
  unfold World.frozen? World.setRow
  simp only [Array.getElem?_modify]
  by_cases hx : g = x.block
  · rw [if_pos hx]
    cases e : w.heap[x.block]? with
    | none => simp
    | some o => cases o <;> simp
  · rw [if_neg hx]

theorem Fr.setCell {S : Nat → Prop} {a w : World} (h : Fr S a w) {p : Addr} (hp : p.block < a.heap.size → S p.block) (u : Value) : Fr S a (w.setCell p u) :=
  ⟨h.os, h.output, by simpa [World.setCell] using h.size, fun k hk hs => (Below.heap_setCell w p u k (fun e => hs (e ▸ hp (e ▸ hk)))).trans (h.block k hk hs),
    fun x hx => (frozen_setCell w p u x).trans (h.frozen x hx)⟩

theorem Fr.cell {S : Nat → Prop} {w w' : World} (h : Fr S w w') {p : Addr} {u : Value} (hc : w.cell? p = some u) (hp : ¬ S p.block) : w'.cell? p = some u :=
  (World.cell?_of_block (h.block p.block (World.block_lt_of_cell? w p hc) hp)).trans hc

theorem lt_of_heap {w : World} {k : Nat} {o : Obj} (h : w.heap[k]? = some o) : k < w.heap.size := (Array.getElem?_eq_some_iff.1 h).1

theorem Fr.heap {S : Nat → Prop} {w w' : World} (h : Fr S w w') {k : Nat} {o : Obj} (hc : w.heap[k]? = some o) (hp : ¬ S k) : w'.heap[k]? = some o :=
  (h.block k (lt_of_heap hc) hp).trans hc

def no : Nat → Prop := fun _ => False

/-- All memory from c on. -/
def From (c : Nat) : Nat → Prop := fun k => c ≤ k

theorem Fr.new {S : Nat → Prop} {w w1 w2 : World} (h : Fr no w w1) (k : Fr S w1 w2) (hS : ∀ i, i < w.heap.size → ¬ S i) : Fr no w w2 :=
  h.trans k (fun _ _ f => f) (fun i hi s => absurd s (hS i hi))

theorem Fr.and {w w1 w2 : World} (h : Fr no w w1) (k : Fr no w1 w2) : Fr no w w2 := h.new k (fun _ _ f => f)

theorem Fr.up {S : Nat → Prop} {w w1 : World} (h : Fr no w w1) : Fr S w w1 := h.mono (fun _ _ f => f.elim)

theorem Fr.frm {c : Nat} {w w1 w2 : World} (h : Fr (From c) w w1) (k : Fr (From c) w1 w2) : Fr (From c) w w2 := h.trans k (fun _ _ f => f) (fun _ _ f => f)

/-- A step that may turn memory from where the world ended alone. -/
theorem Fr.fresh {w w1 w2 : World} (h : Fr no w w1) (k : Fr (From w.heap.size) w1 w2) : Fr no w w2 := h.new k (fun i hi f => by unfold From at f; omega)

/-- A kind of elements of one cell: the slice's type, the element's, its zero value, its bytes, its cell. -/
structure El (α : Type) where
  t : TypeId
  e : TypeId
  z : Value
  b : Nat
  f : α → Value

structure El.Ok {α : Type} (K : El α) : Prop where
  und : Try.prog.underlying K.t = some (.slice K.e)
  info : (Try.prog.info? K.e).map (fun i => (i.zero, i.size, i.bytes)) = some (some K.z, 1, K.b)
  one : ∀ x, (K.f x).oneCell' = true
  zlen : K.z.cells.size = 1
  bs : K.b ≤ 16

def elS : El ByteArray := ⟨22, 9, .string ByteArray.empty, 16, .string⟩
def elI : El Nat := ⟨56, 3, .int .i64 0, 8, fun n => .int .i64 (n : Int)⟩

theorem elS_ok : elS.Ok := ⟨Try.underlying22, by kernel_rfl, fun _ => rfl, rfl, by decide⟩
theorem elI_ok : elI.Ok := ⟨Try.underlying56, by kernel_rfl, fun _ => rfl, rfl, by decide⟩

variable {α : Type} {K : El α}

/-- The cells of these elements. -/
def cg (K : El α) (l : List α) : List Value := l.map K.f

theorem cg_append (l m : List α) : cg K l ++ cg K m = cg K (l ++ m) := by unfold cg; simp
theorem cg_length (l : List α) : (cg K l).length = l.length := by unfold cg; simp
theorem cg_get (l : List α) (i : Nat) (x : α) (h : l[i]? = some x) : (cg K l)[i]? = some (K.f x) := by unfold cg; rw [List.getElem?_map, h]; rfl
theorem cg_one (hK : K.Ok) (l : List α) : ∀ u ∈ cg K l, u.oneCell' = true := by
  intro u hu
  obtain ⟨x, _, rfl⟩ := List.mem_map.1 hu
  exact hK.one x

/-- v is nil, or begins at the head of a row of such elements that isn't frozen; they are l. -/
def OwnG (K : El α) (w : World) (v : Value) (l : List α) : Prop := w.ownsRow 0 K.e 1 v l.length (cg K l)

theorem OwnG.nil (K : El α) (w : World) : OwnG K w (.slice none 0 0) [] := World.ownsRow_nil _ _ _ _

theorem OwnG.lt {w : World} {v : Value} {l : List α} (h : OwnG K w v l) {k : Nat} (hk : v.ownBlock = some k) : k < w.heap.size := (World.ownsRow.lt h k hk).2

theorem OwnG.kept {S : Nat → Prop} {w w' : World} {v : Value} {l : List α} (h : OwnG K w v l) (hf : Fr S w w') (hS : ∀ k, v.ownBlock = some k → ¬ S k) : OwnG K w' v l := by
  refine ⟨h.1, ?_⟩
  rcases h.2 with hn | ⟨g, cap, cur, rfl, hb, hgg, rest⟩
  · exact .inl hn
  · exact .inr ⟨g, cap, cur, rfl, hb, hf.heap hgg (hS g rfl), rest⟩

theorem OwnG.keep {w w' : World} {v : Value} {l : List α} (h : OwnG K w v l) (hf : Fr no w w') : OwnG K w' v l := h.kept hf (fun _ _ f => f)

theorem OwnG.form {w : World} {v : Value} {l : List α} (h : OwnG K w v l) : ∃ o cap, v = .slice o l.length cap := by
  rcases h.2 with ⟨rfl, h0⟩ | ⟨g, cap, cur, rfl, _⟩
  · exact ⟨_, _, by rw [h0]⟩
  · exact ⟨_, _, rfl⟩

/-- The block of such a row is of that kind. -/
theorem OwnG.tag {w : World} {v : Value} {l : List α} (h : OwnG K w v l) {k : Nat} (hk : v.ownBlock = some k) : ∃ cur, w.heap[k]? = some (.cells cur K.e (0, 0)) := by
  rcases h.2 with ⟨rfl, _⟩ | ⟨g, cap, cur, rfl, hb, hgg, _⟩
  · simp [Value.ownBlock] at hk
  · simp [Value.ownBlock] at hk
    subst hk
    exact ⟨cur, hgg⟩

/-- A step that may turn the blocks in q and the row of v, and leaves v' in v's place: v' lies in v's row or in new memory. -/
def Sp (v : Value) (w : World) (v' : Value) (w' : World) : Prop :=
  Fr (fun k => v.ownBlock = some k) w w' ∧ ∀ k, k < w.heap.size → v'.ownBlock = some k → v.ownBlock = some k

theorem run_apdG (hK : K.Ok) (w : World) (v : Value) (l : List α) (hown : OwnG K w v l) (x : Value) (m : List α) (hs : Src Try.prog 1 K.t x m.length (cg K m) w)
    (hb : l.length + m.length ≤ 1000000) :
    ∃ v' w', (Builtin.append_ #[K.t, K.t] K.t #[v, x]).run Try.prog w = .ok v' w' ∧ OwnG K w' v' (l ++ m) ∧ Sp v w v' w' := by
  obtain ⟨i0, hi, hz0, hz1, hz2⟩ := info_parts hK.info
  have ht := hK.und
  have hlen : (cg K (l ++ m)).length = (l ++ m).length * 1 := by rw [cg_length]; omega
  have hbs := hK.bs
  have hbb : (l.length + m.length) * K.b ≤ 1000000 * 16 := Nat.mul_le_mul hb hbs
  have grown : ∀ (b : Option Addr) (sCap : Nat), v = .slice b l.length sCap → sCap < l.length + m.length →
      (Builtin.firstCells i0.size l.length (.slice b l.length sCap)).run Try.prog w.drew = .ok (cg K l).toArray w.drew →
      ∃ v' w', (Builtin.append_ #[K.t, K.t] K.t #[v, x]).run Try.prog w = .ok v' w' ∧ OwnG K w' v' (l ++ m) ∧ Sp v w v' w' := by
    intro b sCap hv hlt hold
    subst hv
    have hr := run_append_grow_src (P := Try.prog) w K.t K.t K.t K.e i0 K.z ht hi hz0 b l.length sCap (cg K l) hold x m.length (cg K m) (by rw [hz1]; exact hs) hlt (by omega)
      (by rw [hz2]; exact growslice_fits (by omega) (by omega))
    have hge := grownCap_ge w (l.length + m.length) sCap K.e
    have hcm : grownCap w (l.length + m.length) sCap K.e ≤ maxLen := grownCap_le_maxLen w _ sCap K.e (by unfold maxLen; omega)
    refine ⟨_, _, hr, ⟨hlen, .inr ⟨w.heap.size, grownCap w (l.length + m.length) sCap K.e, _, ?_, Nat.zero_le _, heap_alloc_new w.drew _, ?_, hcm, ?_, ?_⟩⟩, ?_⟩
    · simp
    · simpa using hge
    · simp only [Array.size_append, List.size_toArray, size_zeroCells, List.length_append, cg_length]
      rw [hK.zlen]
      omega
    · rw [cg_append, Array.toList_append]
      simp only []
      rw [List.take_append_of_le_length (by rw [cg_length]; omega)]
      exact List.take_of_length_le (by rw [cg_length]; omega)
    · exact ⟨(Fr.refl _ w).drew.alloc _ _, fun k hk e => by simp [Value.ownBlock] at e; omega⟩
  rcases hown.2 with ⟨hv, hl0⟩ | ⟨g, cap, cur, hv, hbg, hg, hnc, hcm, hcs, htake⟩
  · have hl : l = [] := List.eq_nil_of_length_eq_zero hl0
    by_cases hm : m.length = 0
    · have hmn : m = [] := List.eq_nil_of_length_eq_zero hm
      subst hmn hl hv
      refine ⟨.slice none 0 0, w, ?_, OwnG.nil K w, ⟨Fr.refl _ _, fun _ _ h => h⟩⟩
      have h1 := hs.len
      have h2 := hs.cells
      rcases hs.kind with ⟨e', hk⟩ | hk <;> simp at h1 h2 <;> simp [Builtin.append_, run_underlying ht, sizeOf, typeInfo, hi, hz1, h1, h2, cg]
    · refine grown none 0 (by rw [hv, hl0]) (by omega) ?_
      subst hl
      simpa [cg] using run_firstCells_none (P := Try.prog) w.drew i0.size 0 0 0
  · by_cases hroom : l.length + m.length ≤ cap
    · subst hv
      have hst := run_storeCells_at Try.prog g (l.length * i0.size) K.e (cg K m) 0 cur w hg (by rw [hz1, cg_length]; omega) (cg_one hK m)
      simp only [Nat.add_zero] at hst
      refine ⟨.slice (some ⟨g, 0, none⟩) (l.length + m.length) cap, w.setRow g (cur.toList.take (l.length * i0.size) ++ cg K m ++ cur.toList.drop (l.length * i0.size + (cg K m).length)).toArray, ?_, ?_, ?_⟩
      · rcases hs.kind with ⟨e', hk⟩ | hk <;> simp [Builtin.append_, run_underlying ht, sizeOf, typeInfo, hi, hs.len, hroom, hz1, hs.cells, Addr.add_lit] <;> (rw [hz1] at hst; simp at hst; simp [hst])
      · refine ⟨hlen, .inr ⟨g, cap, _, by simp, hbg, setRow_heap w g cur _ K.e _ hg, by simpa using hroom, hcm, ?_, ?_⟩⟩
        · simp only [List.size_toArray, List.length_append, List.length_take, List.length_drop, Array.length_toList, cg_length, hz1]
          omega
        · rw [hz1, htake, cg_append]
          exact List.take_left' (by rw [cg_length]; omega)
      · exact ⟨⟨rfl, rfl, by rw [setRow_size]; exact Nat.le_refl _, fun k hk hs => setRow_other w g k _ (fun e => hs (by simp [Value.ownBlock, e])), fun a _ => frozen_setRow w g _ a⟩, fun k _ e => by simpa [Value.ownBlock] using e⟩
    · refine grown (some ⟨g, 0, none⟩) cap hv (by omega) ?_
      rw [hz1]
      refine run_firstCells_some (P := Try.prog) w.drew 1 l.length ⟨g, 0, none⟩ l.length cap (cg K l) (by rw [cg_length]; omega) ?_
      intro j u hj
      simpa using World.ownsRow.cells hown (g := g) (by rw [hv]; rfl) j u hj

theorem wpList_apdG (hK : K.Ok) (w : World) {ops : Array Oper} {rest : List Oper} {o : Oper} {a : Act} {Q : Exit → Act → World → Prop}
    (hg : o.guard = none) (ht : o.type = K.t) (s x : Operand) (hop : o.op = Op.call { callee := Callee.builtin Builtin.append, args := #[s, x], argTypes := #[K.t, K.t] })
    (v : Value) (l : List α) (hs : a.eval s = v) (hown : OwnG K w v l) (xv : Value) (hx : a.eval x = xv) (m : List α) (hsrc : Src Try.prog 1 K.t xv m.length (cg K m) w)
    (hb : l.length + m.length ≤ 1000000)
    (hK' : ∀ v' w', OwnG K w' v' (l ++ m) → Sp v w v' w' → wpList Try.prog ops Q rest (a.put o.dst v') w') :
    wpList Try.prog ops Q (o :: rest) a w := by
  refine wpList_plain hg fun K2 hK2 => ?_
  obtain ⟨v', w', hrun, r1, r2⟩ := run_apdG hK w v l hown xv m hsrc hb
  unfold Oper.wp
  simp [execOp, hop, ht, resolve, invoke, builtin, hs, hx, hrun, Result.andThen]
  exact hK2 _ _ (hK' v' w' r1 r2)

theorem srcG_one (hK : K.Ok) (w : World) (x : α) : Src Try.prog 1 K.t (.slice (some ⟨w.heap.size, 0, none⟩) 1 1) ([x] : List α).length (cg K [x]) (w.alloc (.cells #[K.f x] K.e)) :=
  Src.ofSlice _ hK.und _ _ _ _ (by simp [cg]) (fun j u hj => by
    have hb : (w.alloc (.cells #[K.f x] K.e)).heap[w.heap.size]? = some (.cells #[K.f x] K.e (0, 0)) := heap_alloc_new w _
    rw [Addr.add_lit]
    unfold World.cell?
    simp only [hb]
    simpa [cg] using hj) (cg_one hK _)

/-- v is a slice whose elements are l. -/
def SlG (K : El α) (w : World) (v : Value) (l : List α) : Prop :=
  ∃ ad cap, v = .slice ad l.length cap ∧ l.length ≤ cap ∧ cap ≤ maxLen ∧ (ad = none → l = [] ∧ cap = 0) ∧ ∀ (i : Nat) (x : α), l[i]? = some x → ∃ b off, ad = some ⟨b, off, none⟩ ∧ w.cell? ⟨b, off + i, none⟩ = some (K.f x)

theorem SlG.keep {w w' : World} {v : Value} {l : List α} (h : SlG K w v l) (hf : Fr no w w') : SlG K w' v l := by
  obtain ⟨ad, cap, rfl, h1, h2, h0, h3⟩ := h
  refine ⟨ad, cap, rfl, h1, h2, h0, fun i x hx => ?_⟩
  obtain ⟨b, off, rfl, hc⟩ := h3 i x hx
  exact ⟨b, off, rfl, hf.cell hc (fun f => f)⟩

/-- A slice that lies below c stays while memory from c on turns. -/
theorem SlG.below {S : Nat → Prop} {w0 w w' : World} {v : Value} {l : List α} (h : SlG K w0 v l) (h0 : Fr no w0 w) (hf : Fr S w w') (hS : ∀ i, i < w0.heap.size → ¬ S i) : SlG K w' v l :=
  h.keep (h0.new hf hS)

theorem OwnG.sl {w : World} {v : Value} {l : List α} (h : OwnG K w v l) : SlG K w v l := by
  have h' := h
  rcases h.2 with ⟨rfl, h0⟩ | ⟨g, cap, cur, rfl, hb, hgg, hn, hm, hs, ht⟩
  · have : l = [] := List.eq_nil_of_length_eq_zero h0
    subst this
    exact ⟨none, 0, rfl, Nat.zero_le _, Nat.zero_le _, fun _ => ⟨rfl, rfl⟩, fun i x hx => by simp at hx⟩
  · refine ⟨_, cap, rfl, hn, hm, fun e => by simp at e, fun i x hx => ⟨g, 0, rfl, ?_⟩⟩
    have := World.ownsRow.cells h' (g := g) rfl i _ (cg_get l i x hx)
    rw [Addr.add_lit] at this
    exact this

theorem SlG.src (hK : K.Ok) {w : World} {v : Value} {l : List α} (h : SlG K w v l) : Src Try.prog 1 K.t v l.length (cg K l) w := by
  obtain ⟨ad, cap, rfl, h1, h2, h0, h3⟩ := h
  cases ad with
  | none =>
    obtain ⟨rfl, rfl⟩ := h0 rfl
    exact Src.ofNil _ hK.und _
  | some a =>
    refine Src.ofSlice _ hK.und _ _ _ _ (by rw [cg_length]; omega) (fun j u hj => ?_) (cg_one hK _)
    unfold cg at hj
    rw [List.getElem?_map] at hj
    cases e : l[j]? with
    | none => rw [e] at hj; simp at hj
    | some x =>
      rw [e] at hj
      simp only [Option.map_some, Option.some.injEq] at hj
      subst hj
      obtain ⟨b, off, ha, hc⟩ := h3 j x e
      simp only [Option.some.injEq] at ha
      subst ha
      rw [Addr.add_lit]
      exact hc

theorem own_empty (w : World) : OwnG K (w.alloc (.cells #[] K.e)) (.slice (some ⟨w.heap.size, 0, none⟩) 0 0) [] :=
  World.ownsRow_made w #[] 0 (Nat.zero_le _) (Nat.zero_le _) rfl

theorem own_made (w : World) (n : Nat) (h : n ≤ maxLen) : OwnG K (w.alloc (.cells (madeCells K.z.cells n) K.e)) (.slice (some ⟨w.heap.size, 0, none⟩) 0 n) [] :=
  World.ownsRow_made w _ n (Nat.zero_le _) h (by rw [size_madeCells, Nat.mul_one])

theorem run_makeG (hK : K.Ok) (w : World) (n : Nat) (h : n ≤ 1000) :
    (Instr.makeSlice K.t (.int .i64 0) (.int .i64 (n : Int))).run Try.prog w = .ok (.slice (some ⟨w.heap.size, 0, none⟩) 0 n) (w.alloc (.cells (madeCells K.z.cells n) K.e)) := by
  obtain ⟨i0, hi, hz0, hz1, hz2⟩ := info_parts hK.info
  have hb := hK.bs
  have hbb : (K.b : Int) * (n : Int) ≤ 16 * 1000 := Int.mul_le_mul (by omega) (by omega) (by omega) (by omega)
  have hl := hK.zlen
  have := _root_.Go.run_make w K.t K.e i0 K.z hK.und hi hz0 .i64 .i64 0 (n : Int) (by omega) (by omega) (by rw [hz2]; omega) (by omega)
  rw [hz1] at this
  simpa using this

/-- A row that a literal has made. -/
theorem own_lit (w : World) (l : List α) (cs : Array Value) (hc : cs = (cg K l).toArray) (h : l.length ≤ maxLen) : OwnG K (w.alloc (.cells cs K.e)) (.slice (some ⟨w.heap.size, 0, none⟩) l.length l.length) l := by
  subst hc
  refine ⟨by rw [cg_length]; omega, .inr ⟨w.heap.size, l.length, (cg K l).toArray, rfl, Nat.zero_le _, heap_alloc_new w _, Nat.le_refl _, h, ?_, ?_⟩⟩
  · simp [cg_length]
  · simp only [Nat.mul_one]
    exact List.take_of_length_le (by simp [cg_length])

theorem take_next {α : Type} (l : List α) (k : Nat) (x : α) (h : l[k]? = some x) : l.take (k + 1) = l.take k ++ [x] := by
  rw [List.take_add_one, h]
  rfl
end Go.Proofs.Ytabiagheflkiaaa
