/- Slices of structs, of whatever kind: those that are read, and those that the calls themselves have made; one law on append. -/
import Derived.Test.YthncdbobjeeeaaaGreatDoorNames
namespace Go.Proofs.YthncdbobjeeeaaaGreatDoor
open Go.ChangeShapes Go.WideShapes Go.ChangeAt Go.RowKit

/-- A kind of elements: the slice's type, the element's, how many cells it has, its zero value, its bytes, its cells. -/
structure El (α : Type) where
  t : TypeId
  e : TypeId
  n : Nat
  z : Value
  b : Nat
  f : α → List Value

/-- No byte. -/
def nob (u : Value) : Prop := ∀ c, u ≠ .int .u8 c

structure El.Ok {α : Type} (K : El α) : Prop where
  und : Tryz.prog.underlying K.t = some (.slice K.e)
  info : (Tryz.prog.info? K.e).map (fun i => (i.zero, i.size, i.bytes)) = some (some K.z, K.n, K.b)
  len : ∀ x, (K.f x).length = K.n
  one : ∀ x, ∀ u ∈ K.f x, u.oneCell' = true
  nb : ∀ x, ∀ u ∈ K.f x, nob u
  zlen : K.z.cells.size = K.n
  znb : ∀ u ∈ K.z.cells.toList, nob u
  bs : K.b ≤ 128
  pos : 0 < K.n

variable {α : Type} {K : El α}

/-- The cells of these elements. -/
def cg (K : El α) (l : List α) : List Value := l.flatMap K.f

theorem cg_append (l m : List α) : cg K l ++ cg K m = cg K (l ++ m) := by unfold cg; simp

theorem cg_length (hK : K.Ok) (l : List α) : (cg K l).length = l.length * K.n := by
  induction l with
  | nil => simp [cg]
  | cons x l ih =>
    have : cg K (x :: l) = K.f x ++ cg K l := rfl
    rw [this, List.length_append, ih, hK.len, List.length_cons, Nat.add_mul, Nat.one_mul, Nat.add_comm]

theorem cg_get (hK : K.Ok) (l : List α) (i : Nat) (x : α) (h : l[i]? = some x) (j : Nat) (u : Value) (hj : (K.f x)[j]? = some u) : (cg K l)[i * K.n + j]? = some u := by
  induction l generalizing i with
  | nil => simp at h
  | cons y l ih =>
    have e : cg K (y :: l) = K.f y ++ cg K l := rfl
    have hjn : j < K.n := by
      rw [← hK.len x]
      exact (List.getElem?_eq_some_iff.1 hj).1
    rw [e]
    cases i with
    | zero =>
      simp at h
      subst h
      rw [Nat.zero_mul, Nat.zero_add, List.getElem?_append_left (by rw [hK.len]; exact hjn)]
      exact hj
    | succ i =>
      have := ih i (by simpa using h)
      rw [List.getElem?_append_right (by rw [hK.len, Nat.add_mul]; omega), hK.len]
      rw [show (i + 1) * K.n + j - K.n = i * K.n + j by rw [Nat.add_mul]; omega]
      exact this

theorem cg_one (hK : K.Ok) (l : List α) : ∀ u ∈ cg K l, u.oneCell' = true := by
  intro u hu
  obtain ⟨x, _, h⟩ := List.mem_flatMap.1 hu
  exact hK.one x u h

theorem cg_nob (hK : K.Ok) (l : List α) : ∀ u ∈ cg K l, nob u := by
  intro u hu
  obtain ⟨x, _, h⟩ := List.mem_flatMap.1 hu
  exact hK.nb x u h

/-- v is nil, or begins at the head of a row of such elements that isn't frozen; they are l; no byte lies there. -/
def OwnG (K : El α) (w : World) (v : Value) (l : List α) : Prop :=
  w.ownsRow 0 K.e K.n v l.length (cg K l) ∧ ∀ (k : Nat) (cur : Array Value) (t : TypeId) (fz : Nat × Nat), v.ownBlock = some k → w.heap[k]? = some (.cells cur t fz) → ∀ u ∈ cur.toList, nob u

theorem OwnG.nil (K : El α) (w : World) : OwnG K w (.slice none 0 0) [] := ⟨World.ownsRow_nil _ _ _ _, fun k _ _ _ hk => by simp [Value.ownBlock] at hk⟩

theorem OwnG.lt {w : World} {v : Value} {l : List α} (h : OwnG K w v l) {k : Nat} (hk : v.ownBlock = some k) : k < w.heap.size := (World.ownsRow.lt h.1 k hk).2

theorem OwnG.kept {S : Nat → Prop} {w w' : World} {v : Value} {l : List α} (h : OwnG K w v l) (hf : Fr S w w') (hS : ∀ k, v.ownBlock = some k → ¬ S k) : OwnG K w' v l := by
  refine ⟨⟨h.1.1, ?_⟩, fun k cur t fz hk hc => h.2 k cur t fz hk ((hf.block k (h.lt hk) (hS k hk)).symm.trans hc)⟩
  rcases h.1.2 with hn | ⟨g, cap, cur, rfl, hb, hgg, rest⟩
  · exact .inl hn
  · exact .inr ⟨g, cap, cur, rfl, hb, hf.heap hgg (hS g rfl), rest⟩

theorem OwnG.form {w : World} {v : Value} {l : List α} (h : OwnG K w v l) : ∃ o cap, v = .slice o l.length cap := by
  rcases h.1.2 with ⟨rfl, h0⟩ | ⟨g, cap, cur, rfl, _⟩
  · exact ⟨_, _, by rw [h0]⟩
  · exact ⟨_, _, rfl⟩

theorem cell_mem {w : World} {k : Addr} {u : Value} (hk : w.cell? k = some u) : ∃ cur t fz, w.heap[k.block]? = some (.cells cur t fz) ∧ u ∈ cur.toList := by
  obtain ⟨kb, ko, ke⟩ := k
  unfold World.cell? at hk
  simp only [] at hk
  cases hg : w.heap[kb]? with
  | none => rw [hg] at hk; simp at hk
  | some o =>
    rw [hg] at hk
    cases o with
    | cells cur t fz =>
      refine ⟨cur, t, fz, rfl, ?_⟩
      cases ke with
      | none => simp at hk; exact Array.mem_toList_iff.2 (Array.mem_of_getElem? hk)
      | some _ => simp at hk
    | _ => simp at hk

theorem OwnG.apart {w : World} {v : Value} {l : List α} (h : OwnG K w v l) (k : Addr) (c : Int) (hk : w.cell? k = some (.int .u8 c)) : v.ownBlock ≠ some k.block := by
  intro e
  obtain ⟨cur, t, fz, hg, hm⟩ := cell_mem hk
  exact h.2 k.block cur t fz e hg _ hm c rfl

/-- The block of such a row is of that kind. -/
theorem OwnG.tag {w : World} {v : Value} {l : List α} (h : OwnG K w v l) {k : Nat} (hk : v.ownBlock = some k) : ∃ cur, w.heap[k]? = some (.cells cur K.e (0, 0)) := by
  rcases h.1.2 with ⟨rfl, _⟩ | ⟨g, cap, cur, rfl, hb, hgg, _⟩
  · simp [Value.ownBlock] at hk
  · simp [Value.ownBlock] at hk
    subst hk
    exact ⟨cur, hgg⟩

theorem OwnI.tag {w : World} {v : Value} {l : List (Int × Int)} (h : OwnI w v l) {k : Nat} (hk : v.ownBlock = some k) : ∃ cur, w.heap[k]? = some (.cells cur 57 (0, 0)) := by
  rcases h.1.2 with ⟨rfl, _⟩ | ⟨g, cap, cur, rfl, hb, hgg, _⟩
  · simp [Value.ownBlock] at hk
  · simp [Value.ownBlock] at hk
    subst hk
    exact ⟨cur, hgg⟩

theorem at_nob {cs : Array Value} (h0 : 0 < cs.size) (h : ∀ u ∈ cs.toList, nob u) (i : Nat) : nob cs[i % cs.size]! := by
  have hlt : i % cs.size < cs.size := Nat.mod_lt _ h0
  rw [getElem!_pos cs _ hlt]
  exact h _ (Array.mem_toList_iff.2 (Array.getElem_mem hlt))

theorem zero_nob (hK : K.Ok) (n : Nat) : ∀ u ∈ (Builtin.zeroCells K.z.cells n).toList, nob u := by
  intro u hu
  unfold Builtin.zeroCells at hu
  simp only [Array.toList_map, List.mem_map] at hu
  obtain ⟨i, _, rfl⟩ := hu
  exact at_nob (by rw [hK.zlen]; exact hK.pos) hK.znb i

theorem made_nob (hK : K.Ok) (n : Nat) : ∀ u ∈ (madeCells K.z.cells n).toList, nob u := by
  intro u hu
  unfold madeCells at hu
  simp only [Array.toList_map, List.mem_map] at hu
  obtain ⟨i, _, rfl⟩ := hu
  exact at_nob (by rw [hK.zlen]; exact hK.pos) hK.znb i

theorem ownG_made (hK : K.Ok) (w : World) (n : Nat) (h : n ≤ maxLen) : OwnG K (w.alloc (.cells (madeCells K.z.cells (n * K.n)) K.e)) (.slice (some ⟨w.heap.size, 0, none⟩) 0 n) [] := by
  refine ⟨World.ownsRow_made w _ n (Nat.zero_le _) h (size_madeCells _ _), fun k cur t fz hk hc => ?_⟩
  simp only [Value.ownBlock, Option.some.injEq] at hk
  subst hk
  rw [heap_alloc_new] at hc
  simp only [Option.some.injEq, Obj.cells.injEq] at hc
  obtain ⟨rfl, _, _⟩ := hc
  exact made_nob hK _

theorem run_makeG (hK : K.Ok) (w : World) (n : Nat) (h : n ≤ 1000) :
    (Instr.makeSlice K.t (.int .i64 0) (.int .i64 (n : Int))).run Tryz.prog w = .ok (.slice (some ⟨w.heap.size, 0, none⟩) 0 n) (w.alloc (.cells (madeCells K.z.cells (n * K.n)) K.e)) := by
  obtain ⟨i0, hi, hz0, hz1, hz2⟩ := info_parts hK.info
  have hb := hK.bs
  have hbb : (K.b : Int) * (n : Int) ≤ 128 * 1000 := Int.mul_le_mul (by omega) (by omega) (by omega) (by omega)
  have hl := hK.zlen
  have := _root_.Go.run_make w K.t K.e i0 K.z hK.und hi hz0 .i64 .i64 0 (n : Int) (by omega) (by omega) (by rw [hz2]; omega) (by omega)
  rw [hz1] at this
  simpa using this

theorem run_apdG (hK : K.Ok) (w : World) (v : Value) (l : List α) (hown : OwnG K w v l) (x : Value) (m : List α) (hs : Src Tryz.prog K.n K.t x m.length (cg K m) w)
    (hm0 : m ≠ []) (hb : l.length + m.length ≤ 1000000) :
    ∃ v' w', (Builtin.append_ #[K.t, K.t] K.t #[v, x]).run Tryz.prog w = .ok v' w' ∧ OwnG K w' v' (l ++ m) ∧ Sp no v w v' w' := by
  obtain ⟨i0, hi, hz0, hz1, hz2⟩ := info_parts hK.info
  have ht := hK.und
  have hlen : (cg K (l ++ m)).length = (l ++ m).length * K.n := cg_length hK _
  have hbs := hK.bs
  have hbb : (l.length + m.length) * K.b ≤ 1000000 * 128 := Nat.mul_le_mul hb hbs
  have grown : ∀ (b : Option Addr) (sCap : Nat), v = .slice b l.length sCap → sCap < l.length + m.length →
      (Builtin.firstCells i0.size l.length (.slice b l.length sCap)).run Tryz.prog w.drew = .ok (cg K l).toArray w.drew →
      ∃ v' w', (Builtin.append_ #[K.t, K.t] K.t #[v, x]).run Tryz.prog w = .ok v' w' ∧ OwnG K w' v' (l ++ m) ∧ Sp no v w v' w' := by
    intro b sCap hv hlt hold
    subst hv
    have hr := run_append_grow_src (P := Tryz.prog) w K.t K.t K.t K.e i0 K.z ht hi hz0 b l.length sCap (cg K l) hold x m.length (cg K m) (by rw [hz1]; exact hs) hlt (by omega)
      (by rw [hz2]; exact growslice_fits (by omega) (by omega))
    have hge := grownCap_ge w (l.length + m.length) sCap K.e
    have hcm : grownCap w (l.length + m.length) sCap K.e ≤ maxLen := grownCap_le_maxLen w _ sCap K.e (by unfold maxLen; omega)
    refine ⟨_, _, hr, ⟨⟨hlen, .inr ⟨w.heap.size, grownCap w (l.length + m.length) sCap K.e, _, ?_, Nat.zero_le _, heap_alloc_new w.drew _, ?_, hcm, ?_, ?_⟩⟩, ?_⟩, ?_⟩
    · simp
    · simpa using hge
    · simp only [Array.size_append, List.size_toArray, size_zeroCells, List.length_append, cg_length hK]
      rw [hK.zlen]
      obtain ⟨d, hd⟩ : ∃ d, grownCap w (l.length + m.length) sCap K.e = (l.length + m.length) + d := ⟨_, (Nat.add_sub_of_le hge).symm⟩
      rw [hd, Nat.add_sub_cancel_left, Nat.add_mul, Nat.add_mul]
    · rw [cg_append, Array.toList_append]
      simp only []
      rw [List.take_append_of_le_length (by rw [cg_length hK]; omega)]
      exact List.take_of_length_le (by rw [cg_length hK]; omega)
    · intro k cur t fz hk hc
      simp only [Value.ownBlock, Option.some.injEq] at hk
      subst hk
      have hn := heap_alloc_new w.drew (.cells ((cg K l ++ cg K m).toArray ++ Builtin.zeroCells K.z.cells (grownCap w (l.length + m.length) sCap K.e - (l.length + m.length))) K.e)
      rw [show w.drew.heap.size = w.heap.size from rfl] at hn
      rw [hn] at hc
      simp only [Option.some.injEq, Obj.cells.injEq] at hc
      obtain ⟨rfl, _, _⟩ := hc
      intro u hu
      rw [Array.toList_append, List.mem_append, cg_append] at hu
      rcases hu with hu | hu
      · exact cg_nob hK _ u hu
      · exact zero_nob hK _ u hu
    · exact ⟨(Fr.refl _ w).drew.alloc _ _, fun k hk e => by simp [Value.ownBlock] at e; omega⟩
  rcases hown.1.2 with ⟨hv, hl0⟩ | ⟨g, cap, cur, hv, hbg, hg, hnc, hcm, hcs, htake⟩
  · have hl : l = [] := List.eq_nil_of_length_eq_zero hl0
    have hm : 0 < m.length := List.length_pos_iff.2 hm0
    refine grown none 0 (by rw [hv, hl0]) (by omega) ?_
    subst hl
    simpa [cg] using run_firstCells_none (P := Tryz.prog) w.drew i0.size 0 0 0
  · by_cases hroom : l.length + m.length ≤ cap
    · have hint := hown.2 g cur K.e (0, 0) (by rw [hv]; rfl) hg
      subst hv
      have hfit : l.length * K.n + (cg K m).length ≤ cur.size := by
        rw [cg_length hK, ← Nat.add_mul, hcs]
        exact Nat.mul_le_mul_right _ hroom
      have hst := run_storeCells_at Tryz.prog g (l.length * i0.size) K.e (cg K m) 0 cur w hg (by rw [hz1]; omega) (cg_one hK m)
      simp only [Nat.add_zero] at hst
      refine ⟨.slice (some ⟨g, 0, none⟩) (l.length + m.length) cap, w.setRow g (cur.toList.take (l.length * i0.size) ++ cg K m ++ cur.toList.drop (l.length * i0.size + (cg K m).length)).toArray, ?_, ⟨?_, ?_⟩, ?_⟩
      · rcases hs.kind with ⟨e', hk⟩ | hk <;> simp [Builtin.append_, run_underlying ht, sizeOf, typeInfo, hi, hs.len, hroom, hz1, hs.cells, Addr.add_lit] <;> (rw [hz1] at hst; simp at hst; simp [hst])
      · refine ⟨hlen, .inr ⟨g, cap, _, by simp, hbg, setRow_heap w g cur _ K.e _ hg, by simpa using hroom, hcm, ?_, ?_⟩⟩
        · simp only [List.size_toArray, List.length_append, List.length_take, List.length_drop, Array.length_toList, hz1]
          omega
        · rw [hz1, htake, cg_append]
          exact List.take_left' (by rw [cg_length hK])
      · intro k cur' t fz hk hc
        simp only [Value.ownBlock, Option.some.injEq] at hk
        subst hk
        rw [setRow_heap w g cur _ K.e _ hg] at hc
        simp only [Option.some.injEq, Obj.cells.injEq] at hc
        obtain ⟨rfl, _, _⟩ := hc
        intro u hu
        simp only [List.mem_append] at hu
        rcases hu with (hu | hu) | hu
        · exact hint u (List.mem_of_mem_take hu)
        · exact cg_nob hK _ u hu
        · exact hint u (List.mem_of_mem_drop hu)
      · exact ⟨⟨rfl, rfl, by rw [setRow_size]; exact Nat.le_refl _, fun k hk hs => setRow_other w g k _ (fun e => hs (.inr (by simp [Value.ownBlock, e]))), fun a _ => frozen_setRow w g _ a⟩, fun k _ e => by simpa [Value.ownBlock] using e⟩
    · refine grown (some ⟨g, 0, none⟩) cap hv (by omega) ?_
      rw [hz1]
      refine run_firstCells_some (P := Tryz.prog) w.drew K.n l.length ⟨g, 0, none⟩ l.length cap (cg K l) (cg_length hK l) ?_
      intro j u hj
      simpa using World.ownsRow.cells hown.1 (g := g) (by rw [hv]; rfl) j u hj

theorem wpList_apdG (hK : K.Ok) (w : World) {ops : Array Oper} {rest : List Oper} {o : Oper} {a : Act} {Q : Exit → Act → World → Prop}
    (hg : o.guard = none) (ht : o.type = K.t) (s x : Operand) (hop : o.op = Op.call { callee := Callee.builtin Builtin.append, args := #[s, x], argTypes := #[K.t, K.t] })
    (v : Value) (l : List α) (hs : a.eval s = v) (hown : OwnG K w v l) (xv : Value) (hx : a.eval x = xv) (m : List α) (hsrc : Src Tryz.prog K.n K.t xv m.length (cg K m) w)
    (hm0 : m ≠ []) (hb : l.length + m.length ≤ 1000000)
    (hK' : ∀ v' w', OwnG K w' v' (l ++ m) → Sp no v w v' w' → wpList Tryz.prog ops Q rest (a.put o.dst v') w') :
    wpList Tryz.prog ops Q (o :: rest) a w := by
  refine wpList_plain hg fun K2 hK2 => ?_
  obtain ⟨v', w', hrun, r1, r2⟩ := run_apdG hK w v l hown xv m hsrc hm0 hb
  unfold Oper.wp
  simp [execOp, hop, ht, resolve, invoke, builtin, hs, hx, hrun, Result.andThen]
  exact hK2 _ _ (hK' v' w' r1 r2)

theorem srcG_one (hK : K.Ok) (w : World) (x : α) : Src Tryz.prog K.n K.t (.slice (some ⟨w.heap.size, 0, none⟩) 1 1) ([x] : List α).length (cg K [x]) (w.alloc (.cells (K.f x).toArray K.e)) :=
  Src.ofSlice _ hK.und _ _ _ _ (by simp [cg, hK.len]) (fun j u hj => by
    have hj' : (K.f x)[j]? = some u := by simpa [cg] using hj
    have hb : (w.alloc (.cells (K.f x).toArray K.e)).heap[w.heap.size]? = some (.cells (K.f x).toArray K.e (0, 0)) := heap_alloc_new w _
    rw [Addr.add_lit]
    unfold World.cell?
    simp only [hb]
    simpa using hj') (cg_one hK _)

/-- v is a slice whose elements are l. -/
def SlG (K : El α) (w : World) (v : Value) (l : List α) : Prop :=
  ∃ ad cap, v = .slice ad l.length cap ∧ l.length ≤ cap ∧ cap ≤ maxLen ∧ ∀ (i : Nat) (x : α), l[i]? = some x → ∃ b off, ad = some ⟨b, off, none⟩ ∧
    ∀ (j : Nat) (u : Value), (K.f x)[j]? = some u → w.cell? ⟨b, off + i * K.n + j, none⟩ = some u

theorem SlG.kept {w w' : World} {v : Value} {l : List α} (h : SlG K w v l) (hf : Fr no w w') : SlG K w' v l := by
  obtain ⟨ad, cap, rfl, h1, h2, h3⟩ := h
  refine ⟨ad, cap, rfl, h1, h2, fun i x hx => ?_⟩
  obtain ⟨b, off, rfl, hc⟩ := h3 i x hx
  exact ⟨b, off, rfl, fun j u hj => hf.cell (hc j u hj) (fun f => f)⟩

theorem OwnG.sl (hK : K.Ok) {w : World} {v : Value} {l : List α} (h : OwnG K w v l) : SlG K w v l := by
  have h' := h.1
  rcases h.1.2 with ⟨rfl, h0⟩ | ⟨g, cap, cur, rfl, hb, hgg, hn, hm, hs, ht⟩
  · have : l = [] := List.eq_nil_of_length_eq_zero h0
    subst this
    exact ⟨none, 0, rfl, Nat.zero_le _, Nat.zero_le _, fun i x hx => by simp at hx⟩
  · refine ⟨_, cap, rfl, hn, hm, fun i x hx => ⟨g, 0, rfl, fun j u hj => ?_⟩⟩
    have := World.ownsRow.cells h' (g := g) rfl (i * K.n + j) _ (cg_get hK l i x hx j u hj)
    rw [Addr.add_lit] at this
    rw [Nat.zero_add]
    simpa using this

theorem SlG.take {w : World} {ad : Option Addr} {n cap k : Nat} {l : List α} (h : SlG K w (.slice ad n cap) l) (hk : k ≤ l.length) : SlG K w (.slice ad k cap) (l.take k) := by
  obtain ⟨ad', cap', e, h1, h2, h3⟩ := h
  simp only [Value.slice.injEq] at e
  obtain ⟨rfl, rfl, rfl⟩ := e
  have hl : (l.take k).length = k := by rw [List.length_take]; omega
  refine ⟨ad, cap, by rw [hl], by omega, h2, fun i x hx => h3 i x ?_⟩
  rw [List.getElem?_take] at hx
  split at hx
  · exact hx
  · simp at hx
end Go.Proofs.YthncdbobjeeeaaaGreatDoor
