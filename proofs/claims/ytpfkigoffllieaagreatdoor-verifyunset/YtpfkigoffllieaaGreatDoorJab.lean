/- Slices of structs: read ones, and ones that the calls have made. -/
import Derived.Test.YtpfkigoffllieaaGreatDoorJaa
namespace Go.Proofs.YtpfkigoffllieaaGreatDoor
open Go.ChangeShapes Go.WideShapes Go.ChangeAt Go.RowKit

/-- A kind of elements: the slice's type, the element's, how many cells it has, its zero value, its bytes, its cells. -/
structure El (α : Type) where
  t : TypeId
  e : TypeId
  n : Nat
  z : Value
  b : Nat
  f : α → List Value

/-- No byte. -/
def nob (u : Value) : Prop := ∀ c, u ≠ .int .u8 c

structure El.Ok {α : Type} (K : El α) : Prop where
  und : Tryz.prog.underlying K.t = some (.slice K.e)
  info : (Tryz.prog.info? K.e).map (fun i => (i.zero, i.size, i.bytes)) = some (some K.z, K.n, K.b)
  len : ∀ x, (K.f x).length = K.n
  one : ∀ x, ∀ u ∈ K.f x, u.oneCell' = true
  nb : ∀ x, ∀ u ∈ K.f x, nob u
  zlen : K.z.cells.size = K.n
  znb : ∀ u ∈ K.z.cells.toList, nob u
  bs : K.b ≤ 256
  pos : 0 < K.n

variable {α : Type} {K : El α}

/-- The cells of these elements. -/
def cg (K : El α) (l : List α) : List Value := l.flatMap K.f

theorem cg_append (l m : List α) : cg K l ++ cg K m = cg K (l ++ m) := by unfold cg; simp

theorem cg_length (hK : K.Ok) (l : List α) : (cg K l).length = l.length * K.n := by
  induction l with
  | nil => simp [cg]
  | cons x l ih =>
    have : cg K (x :: l) = K.f x ++ cg K l := rfl
    rw [this, List.length_append, ih, hK.len, List.length_cons, Nat.add_mul, Nat.one_mul, Nat.add_comm]

theorem cg_get (hK : K.Ok) (l : List α) (i : Nat) (x : α) (h : l[i]? = some x) (j : Nat) (u : Value) (hj : (K.f x)[j]? = some u) : (cg K l)[i * K.n + j]? = some u := by
  induction l generalizing i with
  | nil => simp at h
  | cons y l ih =>
    have e : cg K (y :: l) = K.f y ++ cg K l := rfl
    have hjn : j < K.n := by
      rw [← hK.len x]
      exact (List.getElem?_eq_some_iff.1 hj).1
    rw [e]
    cases i with
    | zero =>
      simp at h
      subst h
      rw [Nat.zero_mul, Nat.zero_add, List.getElem?_append_left (by rw [hK.len]; exact hjn)]
      exact hj
    | succ i =>
      have := ih i (by simpa using h)
      rw [List.getElem?_append_right (by rw [hK.len, Nat.add_mul]; omega), hK.len]
      rw [show (i + 1) * K.n + j - K.n = i * K.n + j by rw [Nat.add_mul]; omega]
      exact this

theorem cg_one (hK : K.Ok) (l : List α) : ∀ u ∈ cg K l, u.oneCell' = true := by
  intro u hu
  obtain ⟨x, _, h⟩ := List.mem_flatMap.1 hu
  exact hK.one x u h

theorem cg_nob (hK : K.Ok) (l : List α) : ∀ u ∈ cg K l, nob u := by
  intro u hu
  obtain ⟨x, _, h⟩ := List.mem_flatMap.1 hu
  exact hK.nb x u h

/-- v is nil, or begins at the head of a row of such elements that isn't frozen; they are l; no byte lies there. -/
def OwnG (K : El α) (w : World) (v : Value) (l : List α) : Prop :=
  w.ownsRow 0 K.e K.n v l.length (cg K l) ∧ ∀ (k : Nat) (cur : Array Value) (t : TypeId) (fz : Nat × Nat), v.ownBlock = some k → w.heap[k]? = some (.cells cur t fz) → ∀ u ∈ cur.toList, nob u

theorem OwnG.nil (K : El α) (w : World) : OwnG K w (.slice none 0 0) [] := ⟨World.ownsRow_nil _ _ _ _, fun k _ _ _ hk => by simp [Value.ownBlock] at hk⟩

theorem OwnG.lt {w : World} {v : Value} {l : List α} (h : OwnG K w v l) {k : Nat} (hk : v.ownBlock = some k) : k < w.heap.size := (World.ownsRow.lt h.1 k hk).2

theorem OwnG.kept {S : Nat → Prop} {w w' : World} {v : Value} {l : List α} (h : OwnG K w v l) (hf : Fr S w w') (hS : ∀ k, v.ownBlock = some k → ¬ S k) : OwnG K w' v l := by
  refine ⟨⟨h.1.1, ?_⟩, fun k cur t fz hk hc => h.2 k cur t fz hk ((hf.block k (h.lt hk) (hS k hk)).symm.trans hc)⟩
  rcases h.1.2 with hn | ⟨g, cap, cur, rfl, hb, hgg, rest⟩
  · exact .inl hn
  · exact .inr ⟨g, cap, cur, rfl, hb, hf.heap hgg (hS g rfl), rest⟩

theorem OwnG.form {w : World} {v : Value} {l : List α} (h : OwnG K w v l) : ∃ o cap, v = .slice o l.length cap := by
  rcases h.1.2 with ⟨rfl, h0⟩ | ⟨g, cap, cur, rfl, _⟩
  · exact ⟨_, _, by rw [h0]⟩
  · exact ⟨_, _, rfl⟩

theorem cell_mem {w : World} {k : Addr} {u : Value} (hk : w.cell? k = some u) : ∃ cur t fz, w.heap[k.block]? = some (.cells cur t fz) ∧ u ∈ cur.toList := by
  obtain ⟨kb, ko, ke⟩ := k
  unfold World.cell? at hk
  simp only [] at hk
  cases hg : w.heap[kb]? with
  | none => rw [hg] at hk; simp at hk
  | some o =>
    rw [hg] at hk
    cases o with
    | cells cur t fz =>
      refine ⟨cur, t, fz, rfl, ?_⟩
      cases ke with
      | none => simp at hk; exact Array.mem_toList_iff.2 (Array.mem_of_getElem? hk)
      | some _ => simp at hk
    | _ => simp at hk

/-- The block of such a row is of that kind. -/
theorem OwnG.tag {w : World} {v : Value} {l : List α} (h : OwnG K w v l) {k : Nat} (hk : v.ownBlock = some k) : ∃ cur, w.heap[k]? = some (.cells cur K.e (0, 0)) := by
  rcases h.1.2 with ⟨rfl, _⟩ | ⟨g, cap, cur, rfl, hb, hgg, _⟩
  · simp [Value.ownBlock] at hk
  · simp [Value.ownBlock] at hk
    subst hk
    exact ⟨cur, hgg⟩

theorem at_nob {cs : Array Value} (h0 : 0 < cs.size) (h : ∀ u ∈ cs.toList, nob u) (i : Nat) : nob cs[i % cs.size]! := by
  have hlt : i % cs.size < cs.size := Nat.mod_lt _ h0
  rw [getElem!_pos cs _ hlt]
  exact h _ (Array.mem_toList_iff.2 (Array.getElem_mem hlt))

theorem zero_nob (hK : K.Ok) (n : Nat) : ∀ u ∈ (Builtin.zeroCells K.z.cells n).toList, nob u := by
  intro u hu
  unfold Builtin.zeroCells at hu
  simp only [Array.toList_map, List.mem_map] at hu
  obtain ⟨i, _, rfl⟩ := hu
  exact at_nob (by rw [hK.zlen]; exact hK.pos) hK.znb i

theorem made_nob (hK : K.Ok) (n : Nat) : ∀ u ∈ (madeCells K.z.cells n).toList, nob u := by
  intro u hu
  unfold madeCells at hu
  simp only [Array.toList_map, List.mem_map] at hu
  obtain ⟨i, _, rfl⟩ := hu
  exact at_nob (by rw [hK.zlen]; exact hK.pos) hK.znb i

theorem ownG_made (hK : K.Ok) (w : World) (n : Nat) (h : n ≤ maxLen) : OwnG K (w.alloc (.cells (madeCells K.z.cells (n * K.n)) K.e)) (.slice (some ⟨w.heap.size, 0, none⟩) 0 n) [] := by
  refine ⟨World.ownsRow_made w _ n (Nat.zero_le _) h (size_madeCells _ _), fun k cur t fz hk hc => ?_⟩
  simp only [Value.ownBlock, Option.some.injEq] at hk
  subst hk
  rw [heap_alloc_new] at hc
  simp only [Option.some.injEq, Obj.cells.injEq] at hc
  obtain ⟨rfl, _, _⟩ := hc
  exact made_nob hK _

theorem run_makeG (hK : K.Ok) (w : World) (n : Nat) (h : n ≤ 1000) :
    (Instr.makeSlice K.t (.int .i64 0) (.int .i64 (n : Int))).run Tryz.prog w = .ok (.slice (some ⟨w.heap.size, 0, none⟩) 0 n) (w.alloc (.cells (madeCells K.z.cells (n * K.n)) K.e)) := by
  obtain ⟨i0, hi, hz0, hz1, hz2⟩ := info_parts hK.info
  have hb := hK.bs
  have hbb : (K.b : Int) * (n : Int) ≤ 256 * 1000 := Int.mul_le_mul (by omega) (by omega) (by omega) (by omega)
  have hl := hK.zlen
  have := _root_.Go.run_make w K.t K.e i0 K.z hK.und hi hz0 .i64 .i64 0 (n : Int) (by omega) (by omega) (by rw [hz2]; omega) (by omega)
  rw [hz1] at this
  simpa using this

theorem run_apdG (hK : K.Ok) (w : World) (v : Value) (l : List α) (hown : OwnG K w v l) (x : Value) (m : List α) (hs : Src Tryz.prog K.n K.t x m.length (cg K m) w)
    (hm0 : v = .slice none 0 0 → m ≠ []) (hb : l.length + m.length ≤ 1000000) :
    ∃ v' w', (Builtin.append_ #[K.t, K.t] K.t #[v, x]).run Tryz.prog w = .ok v' w' ∧ OwnG K w' v' (l ++ m) ∧ Sp no v w v' w' := by
  obtain ⟨i0, hi, hz0, hz1, hz2⟩ := info_parts hK.info
  have ht := hK.und
  have hlen : (cg K (l ++ m)).length = (l ++ m).length * K.n := cg_length hK _
  have hbs := hK.bs
  have hbb : (l.length + m.length) * K.b ≤ 1000000 * 256 := Nat.mul_le_mul hb hbs
  have grown : ∀ (b : Option Addr) (sCap : Nat), v = .slice b l.length sCap → sCap < l.length + m.length →
      (Builtin.firstCells i0.size l.length (.slice b l.length sCap)).run Tryz.prog w.drew = .ok (cg K l).toArray w.drew →
      ∃ v' w', (Builtin.append_ #[K.t, K.t] K.t #[v, x]).run Tryz.prog w = .ok v' w' ∧ OwnG K w' v' (l ++ m) ∧ Sp no v w v' w' := by
    intro b sCap hv hlt hold
    subst hv
    have hr := run_append_grow_src (P := Tryz.prog) w K.t K.t K.t K.e i0 K.z ht hi hz0 b l.length sCap (cg K l) hold x m.length (cg K m) (by rw [hz1]; exact hs) hlt (by omega)
      (by rw [hz2]; exact growslice_fits (by omega) (by omega))
    have hge := grownCap_ge w (l.length + m.length) sCap K.e
    have hcm : grownCap w (l.length + m.length) sCap K.e ≤ maxLen := grownCap_le_maxLen w _ sCap K.e (by unfold maxLen; omega)
    refine ⟨_, _, hr, ⟨⟨hlen, .inr ⟨w.heap.size, grownCap w (l.length + m.length) sCap K.e, _, ?_, Nat.zero_le _, heap_alloc_new w.drew _, ?_, hcm, ?_, ?_⟩⟩, ?_⟩, ?_⟩
    · simp
    · simpa using hge
    · simp only [Array.size_append, List.size_toArray, size_zeroCells, List.length_append, cg_length hK]
      rw [hK.zlen]
      obtain ⟨d, hd⟩ : ∃ d, grownCap w (l.length + m.length) sCap K.e = (l.length + m.length) + d := ⟨_, (Nat.add_sub_of_le hge).symm⟩
      rw [hd, Nat.add_sub_cancel_left, Nat.add_mul, Nat.add_mul]
    · rw [cg_append, Array.toList_append]
      simp only []
      rw [List.take_append_of_le_length (by rw [cg_length hK]; omega)]
      exact List.take_of_length_le (by rw [cg_length hK]; omega)
    · intro k cur t fz hk hc
      simp only [Value.ownBlock, Option.some.injEq] at hk
      subst hk
      have hn := heap_alloc_new w.drew (.cells ((cg K l ++ cg K m).toArray ++ Builtin.zeroCells K.z.cells (grownCap w (l.length + m.length) sCap K.e - (l.length + m.length))) K.e)
      rw [show w.drew.heap.size = w.heap.size from rfl] at hn
      rw [hn] at hc
      simp only [Option.some.injEq, Obj.cells.injEq] at hc
      obtain ⟨rfl, _, _⟩ := hc
      intro u hu
      rw [Array.toList_append, List.mem_append, cg_append] at hu
      rcases hu with hu | hu
      · exact cg_nob hK _ u hu
      · exact zero_nob hK _ u hu
    · exact ⟨(Fr.refl _ w).drew.alloc _ _, fun k hk e => by simp [Value.ownBlock] at e; omega⟩
  rcases hown.1.2 with ⟨hv, hl0⟩ | ⟨g, cap, cur, hv, hbg, hg, hnc, hcm, hcs, htake⟩
  · have hl : l = [] := List.eq_nil_of_length_eq_zero hl0
    have hm : 0 < m.length := List.length_pos_iff.2 (hm0 hv)
    refine grown none 0 (by rw [hv, hl0]) (by omega) ?_
    subst hl
    simpa [cg] using run_firstCells_none (P := Tryz.prog) w.drew i0.size 0 0 0
  · by_cases hroom : l.length + m.length ≤ cap
    · have hint := hown.2 g cur K.e (0, 0) (by rw [hv]; rfl) hg
      subst hv
      have hfit : l.length * K.n + (cg K m).length ≤ cur.size := by
        rw [cg_length hK, ← Nat.add_mul, hcs]
        exact Nat.mul_le_mul_right _ hroom
      have hst := run_storeCells_at Tryz.prog g (l.length * i0.size) K.e (cg K m) 0 cur w hg (by rw [hz1]; omega) (cg_one hK m)
      simp only [Nat.add_zero] at hst
      refine ⟨.slice (some ⟨g, 0, none⟩) (l.length + m.length) cap, w.setRow g (cur.toList.take (l.length * i0.size) ++ cg K m ++ cur.toList.drop (l.length * i0.size + (cg K m).length)).toArray, ?_, ⟨?_, ?_⟩, ?_⟩
      · rcases hs.kind with ⟨e', hk⟩ | hk <;> simp [Builtin.append_, run_underlying ht, sizeOf, typeInfo, hi, hs.len, hroom, hz1, hs.cells, Addr.add_lit] <;> (rw [hz1] at hst; simp at hst; simp [hst])
      · refine ⟨hlen, .inr ⟨g, cap, _, by simp, hbg, setRow_heap w g cur _ K.e _ hg, by simpa using hroom, hcm, ?_, ?_⟩⟩
        · simp only [List.size_toArray, List.length_append, List.length_take, List.length_drop, Array.length_toList, hz1]
          omega
        · rw [hz1, htake, cg_append]
          exact List.take_left' (by rw [cg_length hK])
      · intro k cur' t fz hk hc
        simp only [Value.ownBlock, Option.some.injEq] at hk
        subst hk
        rw [setRow_heap w g cur _ K.e _ hg] at hc
        simp only [Option.some.injEq, Obj.cells.injEq] at hc
        obtain ⟨rfl, _, _⟩ := hc
        intro u hu
        simp only [List.mem_append] at hu
        rcases hu with (hu | hu) | hu
        · exact hint u (List.mem_of_mem_take hu)
        · exact cg_nob hK _ u hu
        · exact hint u (List.mem_of_mem_drop hu)
      · exact ⟨⟨rfl, rfl, by rw [setRow_size]; exact Nat.le_refl _, fun k hk hs => setRow_other w g k _ (fun e => hs (.inr (by simp [Value.ownBlock, e]))), fun a _ => frozen_setRow w g _ a⟩, fun k _ e => by simpa [Value.ownBlock] using e⟩
    · refine grown (some ⟨g, 0, none⟩) cap hv (by omega) ?_
      rw [hz1]
      refine run_firstCells_some (P := Tryz.prog) w.drew K.n l.length ⟨g, 0, none⟩ l.length cap (cg K l) (cg_length hK l) ?_
      intro j u hj
      simpa using World.ownsRow.cells hown.1 (g := g) (by rw [hv]; rfl) j u hj

theorem wpList_apdG (hK : K.Ok) (w : World) {ops : Array Oper} {rest : List Oper} {o : Oper} {a : Act} {Q : Exit → Act → World → Prop}
    (hg : o.guard = none) (ht : o.type = K.t) (s x : Operand) (hop : o.op = Op.call { callee := Callee.builtin Builtin.append, args := #[s, x], argTypes := #[K.t, K.t] })
    (v : Value) (l : List α) (hs : a.eval s = v) (hown : OwnG K w v l) (xv : Value) (hx : a.eval x = xv) (m : List α) (hsrc : Src Tryz.prog K.n K.t xv m.length (cg K m) w)
    (hm0 : v = .slice none 0 0 → m ≠ []) (hb : l.length + m.length ≤ 1000000)
    (hK' : ∀ v' w', OwnG K w' v' (l ++ m) → Sp no v w v' w' → wpList Tryz.prog ops Q rest (a.put o.dst v') w') :
    wpList Tryz.prog ops Q (o :: rest) a w := by
  refine wpList_plain hg fun K2 hK2 => ?_
  obtain ⟨v', w', hrun, r1, r2⟩ := run_apdG hK w v l hown xv m hsrc hm0 hb
  unfold Oper.wp
  simp [execOp, hop, ht, resolve, invoke, builtin, hs, hx, hrun, Result.andThen]
  exact hK2 _ _ (hK' v' w' r1 r2)

theorem srcG_one (hK : K.Ok) (w : World) (x : α) : Src Tryz.prog K.n K.t (.slice (some ⟨w.heap.size, 0, none⟩) 1 1) ([x] : List α).length (cg K [x]) (w.alloc (.cells (K.f x).toArray K.e)) :=
  Src.ofSlice _ hK.und _ _ _ _ (by simp [cg, hK.len]) (fun j u hj => by
    have hj' : (K.f x)[j]? = some u := by simpa [cg] using hj
    have hb : (w.alloc (.cells (K.f x).toArray K.e)).heap[w.heap.size]? = some (.cells (K.f x).toArray K.e (0, 0)) := heap_alloc_new w _
    rw [Addr.add_lit]
    unfold World.cell?
    simp only [hb]
    simpa using hj') (cg_one hK _)

/-- v is a slice whose elements are l. -/
def SlG (K : El α) (w : World) (v : Value) (l : List α) : Prop :=
  ∃ ad cap, v = .slice ad l.length cap ∧ l.length ≤ cap ∧ cap ≤ maxLen ∧ ∀ (i : Nat) (x : α), l[i]? = some x → ∃ b off, ad = some ⟨b, off, none⟩ ∧
    ∀ (j : Nat) (u : Value), (K.f x)[j]? = some u → w.cell? ⟨b, off + i * K.n + j, none⟩ = some u

theorem SlG.kept {w w' : World} {v : Value} {l : List α} (h : SlG K w v l) (hf : Fr no w w') : SlG K w' v l := by
  obtain ⟨ad, cap, rfl, h1, h2, h3⟩ := h
  refine ⟨ad, cap, rfl, h1, h2, fun i x hx => ?_⟩
  obtain ⟨b, off, rfl, hc⟩ := h3 i x hx
  exact ⟨b, off, rfl, fun j u hj => hf.cell (hc j u hj) (fun f => f)⟩

theorem OwnG.sl (hK : K.Ok) {w : World} {v : Value} {l : List α} (h : OwnG K w v l) : SlG K w v l := by
  have h' := h.1
  rcases h.1.2 with ⟨rfl, h0⟩ | ⟨g, cap, cur, rfl, hb, hgg, hn, hm, hs, ht⟩
  · have : l = [] := List.eq_nil_of_length_eq_zero h0
    subst this
    exact ⟨none, 0, rfl, Nat.zero_le _, Nat.zero_le _, fun i x hx => by simp at hx⟩
  · refine ⟨_, cap, rfl, hn, hm, fun i x hx => ⟨g, 0, rfl, fun j u hj => ?_⟩⟩
    have := World.ownsRow.cells h' (g := g) rfl (i * K.n + j) _ (cg_get hK l i x hx j u hj)
    rw [Addr.add_lit] at this
    rw [Nat.zero_add]
    simpa using this

theorem SlG.take {w : World} {ad : Option Addr} {n cap k : Nat} {l : List α} (h : SlG K w (.slice ad n cap) l) (hk : k ≤ l.length) : SlG K w (.slice ad k cap) (l.take k) := by
  obtain ⟨ad', cap', e, h1, h2, h3⟩ := h
  simp only [Value.slice.injEq] at e
  obtain ⟨rfl, rfl, rfl⟩ := e
  have hl : (l.take k).length = k := by rw [List.length_take]; omega
  refine ⟨ad, cap, by rw [hl], by omega, h2, fun i x hx => h3 i x ?_⟩
  rw [List.getElem?_take] at hx
  split at hx
  · exact hx
  · simp at hx
end Go.Proofs.YtpfkigoffllieaaGreatDoor

/- Classes as data. -/
namespace Go.Proofs.YtpfkigoffllieaaGreatDoor
open Go.ChangeShapes Go.WideShapes Go.ChangeAt Go.RowKit

/-- A type. -/
structure Ty where
  k : Int
  c : ByteArray

/-- A constant. -/
structure Cs where
  k : Int
  n : Int
  re : Nat
  im : Nat
  c : ByteArray
  m : ByteArray

/-- A field. -/
structure Fd where
  name : ByteArray
  ty : Ty
  vol : Bool

/-- A handler. -/
structure Hd where
  fr : Int
  to : Int
  tg : Int
  cl : Int
  dp : Int

/-- A method. -/
structure Mt where
  name : ByteArray
  params : List Ty
  ret : Ty
  lo : Int
  st : Int
  code : List (Int × Int)
  hands : List Hd

/-- A class. -/
structure Cl where
  name : ByteArray
  super : ByteArray
  pool : List Cs
  fields : List Fd
  methods : List Mt

/-- A slice. -/
structure Sv where
  a : Option Addr
  n : Nat
  c : Nat

/-- A method whose lists are slices. -/
structure Ms where
  name : ByteArray
  p : Sv
  ret : Ty
  lo : Int
  st : Int
  c : Sv
  h : Sv

def e0 : ByteArray := ⟨#[]⟩

/-- Whether that is a type. -/
def isType (t : Ty) (void : Bool) : Bool :=
  if t.k = 4 then isName t.c else if t.k = 1 ∨ t.k = 2 ∨ t.k = 3 then decide (t.c = e0) else if t.k = 0 then void && decide (t.c = e0) else false

/-- What is wrong with a constant. -/
def ckCs (x : Cs) : Nat :=
  if x.k = 1 then (if x.re = 0 ∧ x.im = 0 ∧ x.c = e0 ∧ x.m = e0 then 0 else 51)
  else if x.k = 2 then (if x.n = 0 ∧ x.c = e0 ∧ x.m = e0 then 0 else 51)
  else if x.k = 3 then (if x.n = 0 ∧ x.re = 0 ∧ x.im = 0 ∧ x.m = e0 then (if isName x.c = true then 0 else 50) else 51)
  else if x.k = 4 ∨ x.k = 5 then (if x.n = 0 ∧ x.re = 0 ∧ x.im = 0 then (if isName x.c = true ∧ isName x.m = true then 0 else 50) else 51)
  else 51

/-- The first error of a list, each asked with those ahead of it. -/
def firstE {α : Type} (ask : α → List α → Nat) (ahead : List α) : List α → Nat
  | [] => 0
  | x :: r => if ask x ahead ≠ 0 then ask x ahead else firstE ask (ahead ++ [x]) r

def eachE {α : Type} (most : Nat) (ask : α → List α → Nat) (l : List α) : Nat := if most < l.length then 32 else firstE ask [] l

/-- What is wrong with a field, behind these. -/
def ckFd (x : Fd) (ahead : List Fd) : Nat :=
  if isName x.name = true ∧ isType x.ty false = true then (if ahead.any (fun y => decide (y.name = x.name)) = true then 53 else 0) else 50

def ckTy (t : Ty) (_ : List Ty) : Nat := if isType t false = true then 0 else 50

/-- What is wrong with a method's face, behind these. -/
def ckFace (m : Mt) (ahead : List Mt) : Nat :=
  if isName m.name = true then
    (if eachE 6 ckTy m.params ≠ 0 then eachE 6 ckTy m.params
     else if isType m.ret true = true then (if ahead.any (fun y => decide (y.name = m.name)) = true then 53 else 0) else 50)
  else 50

/-- The kind of constant that an op asks for. -/
def asked (op : Int) : Int :=
  if op = 1 then 1 else if op = 2 then 2 else if op = 25 ∨ op = 36 ∨ op = 37 then 3 else if op = 26 ∨ op = 27 then 4 else 5

/-- Whether the constant of that number is of that kind. -/
def isCst (pool : List Cs) (a k : Int) : Bool := decide (0 ≤ a) && (match pool[a.toNat]? with | some x => decide (x.k = k) | none => false)

/-- What is wrong with an instruction. -/
def ckIns (pool : List Cs) (lo : Int) (n : Nat) (x : Int × Int) : Nat :=
  if isb x.1 x.2 = true then
    (if od x.1 = 1 then (if lo ≤ x.2 then 52 else 0)
     else if od x.1 = 2 then (if isCst pool x.2 (asked x.1) = true then 0 else 51)
     else if od x.1 = 3 then (if (n : Int) ≤ x.2 then 52 else 0) else 0)
  else 40

/-- What is wrong with a handler. -/
def ckHd (pool : List Cs) (n : Nat) (h : Hd) : Nat :=
  if 0 ≤ h.fr ∧ h.fr < h.to ∧ h.to ≤ (n : Int) ∧ 0 ≤ h.tg ∧ h.tg < (n : Int) then
    (if h.cl = -1 ∨ isCst pool h.cl 3 = true then (if 0 ≤ h.dp ∧ h.dp ≤ 6 then 0 else 32) else 51)
  else 52

/-- What is wrong with a method's body. -/
def ckBody (pool : List Cs) (m : Mt) : Nat :=
  if 1 + (m.params.length : Int) ≤ m.lo ∧ m.lo ≤ 32 ∧ 0 ≤ m.st ∧ m.st ≤ 64 then
    (if m.code.length = 0 then 32
     else if eachE 200 (fun x _ => ckIns pool m.lo m.code.length x) m.code ≠ 0 then eachE 200 (fun x _ => ckIns pool m.lo m.code.length x) m.code
     else if has (m.code.getD (m.code.length - 1) (0, 0)).1 1 = true then eachE 16 (fun h _ => ckHd pool m.code.length h) m.hands else 54)
  else 32

def ckMt (pool : List Cs) (m : Mt) (ahead : List Mt) : Nat := if ckFace m ahead ≠ 0 then ckFace m ahead else ckBody pool m

/-- What is wrong with a class. -/
def chk (c : Cl) : Nat :=
  if isName c.name = true ∧ (c.super = e0 ∨ isName c.super = true) then
    (if eachE 128 (fun x _ => ckCs x) c.pool ≠ 0 then eachE 128 (fun x _ => ckCs x) c.pool
     else if eachE 8 ckFd c.fields ≠ 0 then eachE 8 ckFd c.fields
     else eachE 12 (ckMt c.pool) c.methods)
  else 50

def tyV (t : Ty) : Value := .agg #[.int .i64 t.k, .string t.c]

def csV (x : Cs) : Value := .agg #[.int .i64 x.k, .int .i64 x.n, .complex .f64 x.re x.im, .string x.c, .string x.m]

def fdV (x : Fd) : Value := .agg #[.string x.name, .int .i64 x.ty.k, .string x.ty.c, .bool x.vol]

def hdV (h : Hd) : Value := .agg #[.int .i64 h.fr, .int .i64 h.to, .int .i64 h.tg, .int .i64 h.cl, .int .i64 h.dp]

def msV (m : Ms) : Value := .agg #[.string m.name, .slice m.p.a m.p.n m.p.c, .int .i64 m.ret.k, .string m.ret.c, .int .i64 m.lo, .int .i64 m.st, .slice m.c.a m.c.n m.c.c, .slice m.h.a m.h.n m.h.c]

def tyC (t : Ty) : List Value := [.int .i64 t.k, .string t.c]

def csC (x : Cs) : List Value := [.int .i64 x.k, .int .i64 x.n, .complex .f64 x.re x.im, .string x.c, .string x.m]

def fdC (x : Fd) : List Value := [.string x.name, .int .i64 x.ty.k, .string x.ty.c, .bool x.vol]

def hdC (h : Hd) : List Value := [.int .i64 h.fr, .int .i64 h.to, .int .i64 h.tg, .int .i64 h.cl, .int .i64 h.dp]

def msC (m : Ms) : List Value := [.string m.name, .slice m.p.a m.p.n m.p.c, .int .i64 m.ret.k, .string m.ret.c, .int .i64 m.lo, .int .i64 m.st, .slice m.c.a m.c.n m.c.c, .slice m.h.a m.h.n m.h.c]

def elTy : El Ty := { t := 56, e := 55, n := 2, z := .agg #[.int .i64 0, .string e0], b := 24, f := tyC }

def elCs : El Cs := { t := 33, e := 32, n := 5, z := .agg #[.int .i64 0, .int .i64 0, .complex .f64 0 0, .string e0, .string e0], b := 64, f := csC }

def elFd : El Fd := { t := 66, e := 100, n := 4, z := .agg #[.string e0, .int .i64 0, .string e0, .bool false], b := 48, f := fdC }

def elHd : El Hd := { t := 62, e := 148, n := 5, z := .agg #[.int .i64 0, .int .i64 0, .int .i64 0, .int .i64 0, .int .i64 0], b := 40, f := hdC }

def elMs : El Ms := { t := 65, e := 64, n := 8, z := .agg #[.string e0, .slice none 0 0, .int .i64 0, .string e0, .int .i64 0, .int .i64 0, .slice none 0 0, .slice none 0 0], b := 128, f := msC }

theorem nob_int (n : Int) : nob (.int .i64 n) := fun c h => by cases h

theorem nob_str (s : ByteArray) : nob (.string s) := fun c h => by cases h

theorem nob_cx (a b : Nat) : nob (.complex .f64 a b) := fun c h => by cases h

theorem nob_bool (b : Bool) : nob (.bool b) := fun c h => by cases h

theorem nob_sl (a : Option Addr) (n c : Nat) : nob (.slice a n c) := fun c h => by cases h

theorem okTy : elTy.Ok where
  und := Tryz.underlying56
  info := by kernel_rfl
  len := fun _ => rfl
  one := fun x u hu => by simp [elTy, tyC] at hu; rcases hu with rfl | rfl <;> rfl
  nb := fun x u hu => by simp [elTy, tyC] at hu; rcases hu with rfl | rfl; exact nob_int _; exact nob_str _
  zlen := rfl
  znb := fun u hu => by
    have : u ∈ [Value.int .i64 0, .string e0] := hu
    simp at this; rcases this with rfl | rfl; exact nob_int _; exact nob_str _
  bs := by decide
  pos := by decide

theorem okCs : elCs.Ok where
  und := Tryz.underlying33
  info := by kernel_rfl
  len := fun _ => rfl
  one := fun x u hu => by simp [elCs, csC] at hu; rcases hu with rfl | rfl | rfl | rfl | rfl <;> rfl
  nb := fun x u hu => by simp [elCs, csC] at hu; rcases hu with rfl | rfl | rfl | rfl | rfl; exact nob_int _; exact nob_int _; exact nob_cx _ _; exact nob_str _; exact nob_str _
  zlen := rfl
  znb := fun u hu => by
    have : u ∈ [Value.int .i64 0, .int .i64 0, .complex .f64 0 0, .string e0, .string e0] := hu
    simp at this; rcases this with rfl | rfl | rfl; exact nob_int _; exact nob_cx _ _; exact nob_str _
  bs := by decide
  pos := by decide

theorem okFd : elFd.Ok where
  und := Tryz.underlying66
  info := by kernel_rfl
  len := fun _ => rfl
  one := fun x u hu => by simp [elFd, fdC] at hu; rcases hu with rfl | rfl | rfl | rfl <;> rfl
  nb := fun x u hu => by simp [elFd, fdC] at hu; rcases hu with rfl | rfl | rfl | rfl; exact nob_str _; exact nob_int _; exact nob_str _; exact nob_bool _
  zlen := by kernel_rfl
  znb := fun u hu => by
    have : u ∈ [Value.string e0, .int .i64 0, .string e0, .bool false] := by
      have e : elFd.z.cells = #[Value.string e0, .int .i64 0, .string e0, .bool false] := by kernel_rfl
      rw [e] at hu
      exact hu
    simp at this; rcases this with rfl | rfl | rfl | rfl; exact nob_str _; exact nob_int _; exact nob_str _; exact nob_bool _
  bs := by decide
  pos := by decide

theorem okHd : elHd.Ok where
  und := Tryz.underlying62
  info := by kernel_rfl
  len := fun _ => rfl
  one := fun x u hu => by simp [elHd, hdC] at hu; rcases hu with rfl | rfl | rfl | rfl | rfl <;> rfl
  nb := fun x u hu => by simp [elHd, hdC] at hu; rcases hu with rfl | rfl | rfl | rfl | rfl <;> exact nob_int _
  zlen := rfl
  znb := fun u hu => by
    have : u ∈ [Value.int .i64 0, .int .i64 0, .int .i64 0, .int .i64 0, .int .i64 0] := hu
    simp at this; rcases this with rfl; exact nob_int _
  bs := by decide
  pos := by decide

theorem okMs : elMs.Ok where
  und := Tryz.underlying65
  info := by kernel_rfl
  len := fun _ => rfl
  one := fun x u hu => by simp [elMs, msC] at hu; rcases hu with rfl | rfl | rfl | rfl | rfl | rfl | rfl | rfl <;> rfl
  nb := fun x u hu => by simp [elMs, msC] at hu; rcases hu with rfl | rfl | rfl | rfl | rfl | rfl | rfl | rfl; exact nob_str _; exact nob_sl _ _ _; exact nob_int _; exact nob_str _; exact nob_int _; exact nob_int _; exact nob_sl _ _ _; exact nob_sl _ _ _
  zlen := by kernel_rfl
  znb := fun u hu => by
    have : u ∈ [Value.string e0, .slice none 0 0, .int .i64 0, .string e0, .int .i64 0, .int .i64 0, .slice none 0 0, .slice none 0 0] := by
      have e : elMs.z.cells = #[Value.string e0, .slice none 0 0, .int .i64 0, .string e0, .int .i64 0, .int .i64 0, .slice none 0 0, .slice none 0 0] := by kernel_rfl
      rw [e] at hu
      exact hu
    simp at this; rcases this with rfl | rfl | rfl | rfl | rfl | rfl <;> first | exact nob_str _ | exact nob_sl _ _ _ | exact nob_int _
  bs := by decide
  pos := by decide
end Go.Proofs.YtpfkigoffllieaaGreatDoor

/- What a type and a constant may be. -/
namespace Go.Proofs.YtpfkigoffllieaaGreatDoor
open Go.ChangeShapes Go.WideShapes Go.ChangeAt Go.RowKit

theorem emp (c : ByteArray) : c.toList.isEmpty = decide (c = e0) := by
  rw [ByteArray.toList_eq]
  by_cases h : c = e0
  · subst h; rfl
  · rw [decide_eq_false h]
    have : c.data.toList ≠ [] := fun e => h (by
      cases c with
      | mk d =>
        have : d = #[] := by
          cases d with
          | mk l => simp at e; subst e; rfl
        subst this
        rfl)
    simpa using this

theorem emp_ne (c : ByteArray) (h : c ≠ e0) : ¬ c.toList = [] := fun e => by
  have := emp c
  rw [e, decide_eq_false h] at this
  simp at this

theorem isType_any (w : World) (t : Ty) (void : Bool) (hs : t.c.size ≤ 1099511627776) : Calls Tryz.prog 68 #[tyV t, .bool void] w fun e w' => e = .returned (.bool (isType t void)) ∧ Fr no w w' := by
  obtain ⟨k, c⟩ := t
  unfold tyV
  simp only [] at *
  have HF : Hid (Fr no w (w.alloc (.cells #[.int .i64 k, .string c] 55))) := (Fr.refl no w).alloc _ _
  by_cases h4 : k = 4
  · subst h4
    have I := isName_any (w.alloc (.cells #[.int .i64 4, .string c] 55)) c hs
    have HE : Hid (isType ⟨4, c⟩ void = isName c) := by show _ = _; unfold isType; rw [if_pos rfl]
    go_enter Tryz.func68, Tryz.ntmps68
    go_wp2_with fail
    refine I.mono ?_
    rintro e w1 ⟨rfl, rfl⟩
    go_wp2_with fail
    go_ret
    rw [HE.out]
    exact ⟨rfl, HF.out⟩
  · have q4 : (k == 4) = false := by simpa using h4
    by_cases h1 : k = 1
    · subst h1
      have HE : Hid (isType ⟨1, c⟩ void = c.toList.isEmpty) := by show _ = _; unfold isType; rw [if_neg h4, if_pos (.inl rfl), emp]
      go_enter Tryz.func68, Tryz.ntmps68
      go_wp2_with fail
      go_ret
      rw [HE.out]
      exact ⟨rfl, HF.out⟩
    · have q1 : (k == 1) = false := by simpa using h1
      by_cases h2 : k = 2
      · subst h2
        have HE : Hid (isType ⟨2, c⟩ void = c.toList.isEmpty) := by show _ = _; unfold isType; rw [if_neg h4, if_pos (.inr (.inl rfl)), emp]
        go_enter Tryz.func68, Tryz.ntmps68
        go_wp2_with fail
        go_ret
        rw [HE.out]
        exact ⟨rfl, HF.out⟩
      · have q2 : (k == 2) = false := by simpa using h2
        by_cases h3 : k = 3
        · subst h3
          have HE : Hid (isType ⟨3, c⟩ void = c.toList.isEmpty) := by show _ = _; unfold isType; rw [if_neg h4, if_pos (.inr (.inr rfl)), emp]
          go_enter Tryz.func68, Tryz.ntmps68
          go_wp2_with fail
          go_ret
          rw [HE.out]
          exact ⟨rfl, HF.out⟩
        · have q3 : (k == 3) = false := by simpa using h3
          by_cases h0 : k = 0
          · subst h0
            have HE : Hid (isType ⟨0, c⟩ void = (void && c.toList.isEmpty)) := by show _ = _; unfold isType; rw [if_neg h4, if_neg (by simp), if_pos rfl, emp]
            cases void with
            | true =>
              go_enter Tryz.func68, Tryz.ntmps68
              go_wp2_with fail
              go_ret
              rw [HE.out]
              exact ⟨rfl, HF.out⟩
            | false =>
              go_enter Tryz.func68, Tryz.ntmps68
              go_wp2_with fail
              go_ret
              rw [HE.out]
              exact ⟨rfl, HF.out⟩
          · have q0 : (k == 0) = false := by simpa using h0
            have HE : Hid (isType ⟨k, c⟩ void = false) := by show _ = _; unfold isType; simp only []; rw [if_neg h4, if_neg (by omega), if_neg h0]
            go_enter Tryz.func68, Tryz.ntmps68
            go_wp2_with fail
            go_ret
            rw [HE.out]
            exact ⟨rfl, HF.out⟩

/-- Which parts are a kind's own. -/
def own (k : Int) : Int := if k = 1 then 1 else if k = 2 then 2 else if k = 3 then 4 else if k = 4 ∨ k = 5 then 12 else 0

theorem ownParts_any (w : World) (k : Int) : Calls Tryz.prog 66 #[.int .i64 k] w fun e w' => e = .returned (.int .i64 (own k)) ∧ w' = w := by
  by_cases h1 : k = 1
  · subst h1
    go_enter Tryz.func66, Tryz.ntmps66
    go_wp2_with fail
    go_ret
    exact ⟨rfl, rfl⟩
  by_cases h2 : k = 2
  · subst h2
    go_enter Tryz.func66, Tryz.ntmps66
    go_wp2_with fail
    go_ret
    exact ⟨rfl, rfl⟩
  by_cases h3 : k = 3
  · subst h3
    go_enter Tryz.func66, Tryz.ntmps66
    go_wp2_with fail
    go_ret
    exact ⟨rfl, rfl⟩
  by_cases h4 : k = 4
  · subst h4
    go_enter Tryz.func66, Tryz.ntmps66
    go_wp2_with fail
    go_ret
    exact ⟨rfl, rfl⟩
  by_cases h5 : k = 5
  · subst h5
    go_enter Tryz.func66, Tryz.ntmps66
    go_wp2_with fail
    go_ret
    exact ⟨rfl, rfl⟩
  have q1 : (k == 1) = false := by simpa using h1
  have q2 : (k == 2) = false := by simpa using h2
  have q3 : (k == 3) = false := by simpa using h3
  have q4 : (k == 4) = false := by simpa using h4
  have q5 : (k == 5) = false := by simpa using h5
  have HE : Hid (own k = 0) := by show _ = _; unfold own; rw [if_neg h1, if_neg h2, if_neg h3, if_neg (by omega)]
  clear h1 h2 h3 h4 h5
  go_enter Tryz.func66, Tryz.ntmps66
  go_wp2_with fail
  go_ret
  rw [HE.out]
  exact ⟨rfl, rfl⟩

theorem sameBits_any (w : World) (a b c d : Nat) : Calls Tryz.prog 106 #[.complex .f64 a b, .complex .f64 c d] w fun e w' => e = .returned (.bool (decide (a = c ∧ b = d))) ∧ w' = w := by
  have hbits := run_bits
  by_cases h1 : a = c
  · subst h1
    by_cases h2 : b = d
    · subst h2
      go_enter Tryz.func106, Tryz.ntmps106
      go_wp2_with fail
      go_ret
      exact ⟨by simp, rfl⟩
    · have q : ((b : Int) == (d : Int)) = false := by simp; omega
      go_enter Tryz.func106, Tryz.ntmps106
      go_wp2_with fail
      go_ret
      exact ⟨by simp [h2], rfl⟩
  · have q : ((a : Int) == (c : Int)) = false := by simp; omega
    go_enter Tryz.func106, Tryz.ntmps106
    go_wp2_with fail
    go_ret
    exact ⟨by simp [h1], rfl⟩

/-- Which parts of a constant aren't zero. -/
def parts (x : Cs) : Int := (if x.n = 0 then 0 else 1) + (if x.re = 0 ∧ x.im = 0 then 0 else 2) + (if x.c = e0 then 0 else 4) + (if x.m = e0 then 0 else 8)

theorem emp_eq (c : ByteArray) (h : c = e0) : c.toList = [] := (toList_nil c).2 (by subst h; rfl)

theorem emp_false (c : ByteArray) (h : c ≠ e0) : c.toList.isEmpty = false := by rw [emp, decide_eq_false h]

set_option maxRecDepth 100000 in
set_option maxHeartbeats 2000000 in
theorem partsOf_any (w : World) (x : Cs) : Calls Tryz.prog 67 #[csV x] w fun e w' => e = .returned (.int .i64 (parts x)) ∧ Fr no w w' := by
  obtain ⟨k, n, re, im, c, m⟩ := x
  unfold csV
  simp only []
  have HF : Hid (Fr no w (w.alloc (.cells #[.int .i64 k, .int .i64 n, .complex .f64 re im, .string c, .string m] 32))) := (Fr.refl no w).alloc _ _
  have S := sameBits_any (w.alloc (.cells #[.int .i64 k, .int .i64 n, .complex .f64 re im, .string c, .string m] 32)) re im 0 0
  have HP : Hid (parts ⟨k, n, re, im, c, m⟩ = (if n = 0 then 0 else 1) + (if re = 0 ∧ im = 0 then 0 else 2) + (if c = e0 then 0 else 4) + (if m = e0 then 0 else 8)) := rfl
  by_cases h1 : n = 0
  · subst h1
    rw [if_pos rfl] at HP
    by_cases h2 : re = 0 ∧ im = 0
    · rw [decide_eq_true h2] at S
      rw [if_pos h2] at HP
      clear h2
      by_cases h3 : c = e0
      · have q3 := emp_eq c h3
        rw [if_pos h3] at HP
        clear h3
        by_cases h4 : m = e0
        · have q4 := emp_eq m h4
          rw [if_pos h4] at HP
          clear h4
          go_enter Tryz.func67, Tryz.ntmps67
          go_wp2_with fail
          refine S.mono ?_
          rintro e w1 ⟨rfl, rfl⟩
          go_wp2_with fail
          go_ret
          rw [HP.out]
          exact ⟨by first | rfl | decide, HF.out⟩
        · have q4 := emp_ne m h4
          have q4b := emp_false m h4
          rw [if_neg h4] at HP
          clear h4
          go_enter Tryz.func67, Tryz.ntmps67
          go_wp2_with fail
          refine S.mono ?_
          rintro e w1 ⟨rfl, rfl⟩
          go_wp2_with fail
          go_ret
          rw [HP.out]
          exact ⟨by first | rfl | decide, HF.out⟩
      · have q3 := emp_ne c h3
        have q3b := emp_false c h3
        rw [if_neg h3] at HP
        clear h3
        by_cases h4 : m = e0
        · have q4 := emp_eq m h4
          rw [if_pos h4] at HP
          clear h4
          go_enter Tryz.func67, Tryz.ntmps67
          go_wp2_with fail
          refine S.mono ?_
          rintro e w1 ⟨rfl, rfl⟩
          go_wp2_with fail
          go_ret
          rw [HP.out]
          exact ⟨by first | rfl | decide, HF.out⟩
        · have q4 := emp_ne m h4
          have q4b := emp_false m h4
          rw [if_neg h4] at HP
          clear h4
          go_enter Tryz.func67, Tryz.ntmps67
          go_wp2_with fail
          refine S.mono ?_
          rintro e w1 ⟨rfl, rfl⟩
          go_wp2_with fail
          go_ret
          rw [HP.out]
          exact ⟨by first | rfl | decide, HF.out⟩
    · rw [decide_eq_false h2] at S
      rw [if_neg h2] at HP
      clear h2
      by_cases h3 : c = e0
      · have q3 := emp_eq c h3
        rw [if_pos h3] at HP
        clear h3
        by_cases h4 : m = e0
        · have q4 := emp_eq m h4
          rw [if_pos h4] at HP
          clear h4
          go_enter Tryz.func67, Tryz.ntmps67
          go_wp2_with fail
          refine S.mono ?_
          rintro e w1 ⟨rfl, rfl⟩
          go_wp2_with fail
          go_ret
          rw [HP.out]
          exact ⟨by first | rfl | decide, HF.out⟩
        · have q4 := emp_ne m h4
          have q4b := emp_false m h4
          rw [if_neg h4] at HP
          clear h4
          go_enter Tryz.func67, Tryz.ntmps67
          go_wp2_with fail
          refine S.mono ?_
          rintro e w1 ⟨rfl, rfl⟩
          go_wp2_with fail
          go_ret
          rw [HP.out]
          exact ⟨by first | rfl | decide, HF.out⟩
      · have q3 := emp_ne c h3
        have q3b := emp_false c h3
        rw [if_neg h3] at HP
        clear h3
        by_cases h4 : m = e0
        · have q4 := emp_eq m h4
          rw [if_pos h4] at HP
          clear h4
          go_enter Tryz.func67, Tryz.ntmps67
          go_wp2_with fail
          refine S.mono ?_
          rintro e w1 ⟨rfl, rfl⟩
          go_wp2_with fail
          go_ret
          rw [HP.out]
          exact ⟨by first | rfl | decide, HF.out⟩
        · have q4 := emp_ne m h4
          have q4b := emp_false m h4
          rw [if_neg h4] at HP
          clear h4
          go_enter Tryz.func67, Tryz.ntmps67
          go_wp2_with fail
          refine S.mono ?_
          rintro e w1 ⟨rfl, rfl⟩
          go_wp2_with fail
          go_ret
          rw [HP.out]
          exact ⟨by first | rfl | decide, HF.out⟩
  · rw [if_neg h1] at HP
    have q1 : (n == 0) = false := by simpa using h1
    by_cases h2 : re = 0 ∧ im = 0
    · rw [decide_eq_true h2] at S
      rw [if_pos h2] at HP
      clear h2
      by_cases h3 : c = e0
      · have q3 := emp_eq c h3
        rw [if_pos h3] at HP
        clear h3
        by_cases h4 : m = e0
        · have q4 := emp_eq m h4
          rw [if_pos h4] at HP
          clear h4
          go_enter Tryz.func67, Tryz.ntmps67
          go_wp2_with fail
          refine S.mono ?_
          rintro e w1 ⟨rfl, rfl⟩
          go_wp2_with fail
          go_ret
          rw [HP.out]
          exact ⟨by first | rfl | decide, HF.out⟩
        · have q4 := emp_ne m h4
          have q4b := emp_false m h4
          rw [if_neg h4] at HP
          clear h4
          go_enter Tryz.func67, Tryz.ntmps67
          go_wp2_with fail
          refine S.mono ?_
          rintro e w1 ⟨rfl, rfl⟩
          go_wp2_with fail
          go_ret
          rw [HP.out]
          exact ⟨by first | rfl | decide, HF.out⟩
      · have q3 := emp_ne c h3
        have q3b := emp_false c h3
        rw [if_neg h3] at HP
        clear h3
        by_cases h4 : m = e0
        · have q4 := emp_eq m h4
          rw [if_pos h4] at HP
          clear h4
          go_enter Tryz.func67, Tryz.ntmps67
          go_wp2_with fail
          refine S.mono ?_
          rintro e w1 ⟨rfl, rfl⟩
          go_wp2_with fail
          go_ret
          rw [HP.out]
          exact ⟨by first | rfl | decide, HF.out⟩
        · have q4 := emp_ne m h4
          have q4b := emp_false m h4
          rw [if_neg h4] at HP
          clear h4
          go_enter Tryz.func67, Tryz.ntmps67
          go_wp2_with fail
          refine S.mono ?_
          rintro e w1 ⟨rfl, rfl⟩
          go_wp2_with fail
          go_ret
          rw [HP.out]
          exact ⟨by first | rfl | decide, HF.out⟩
    · rw [decide_eq_false h2] at S
      rw [if_neg h2] at HP
      clear h2
      by_cases h3 : c = e0
      · have q3 := emp_eq c h3
        rw [if_pos h3] at HP
        clear h3
        by_cases h4 : m = e0
        · have q4 := emp_eq m h4
          rw [if_pos h4] at HP
          clear h4
          go_enter Tryz.func67, Tryz.ntmps67
          go_wp2_with fail
          refine S.mono ?_
          rintro e w1 ⟨rfl, rfl⟩
          go_wp2_with fail
          go_ret
          rw [HP.out]
          exact ⟨by first | rfl | decide, HF.out⟩
        · have q4 := emp_ne m h4
          have q4b := emp_false m h4
          rw [if_neg h4] at HP
          clear h4
          go_enter Tryz.func67, Tryz.ntmps67
          go_wp2_with fail
          refine S.mono ?_
          rintro e w1 ⟨rfl, rfl⟩
          go_wp2_with fail
          go_ret
          rw [HP.out]
          exact ⟨by first | rfl | decide, HF.out⟩
      · have q3 := emp_ne c h3
        have q3b := emp_false c h3
        rw [if_neg h3] at HP
        clear h3
        by_cases h4 : m = e0
        · have q4 := emp_eq m h4
          rw [if_pos h4] at HP
          clear h4
          go_enter Tryz.func67, Tryz.ntmps67
          go_wp2_with fail
          refine S.mono ?_
          rintro e w1 ⟨rfl, rfl⟩
          go_wp2_with fail
          go_ret
          rw [HP.out]
          exact ⟨by first | rfl | decide, HF.out⟩
        · have q4 := emp_ne m h4
          have q4b := emp_false m h4
          rw [if_neg h4] at HP
          clear h4
          go_enter Tryz.func67, Tryz.ntmps67
          go_wp2_with fail
          refine S.mono ?_
          rintro e w1 ⟨rfl, rfl⟩
          go_wp2_with fail
          go_ret
          rw [HP.out]
          exact ⟨by first | rfl | decide, HF.out⟩

def sumB (a b c d : Bool) : Int := (if a then 0 else 1) + (if b then 0 else 2) + (if c then 0 else 4) + (if d then 0 else 8)

theorem parts_b (x : Cs) : parts x = sumB (decide (x.n = 0)) (decide (x.re = 0 ∧ x.im = 0)) (decide (x.c = e0)) (decide (x.m = e0)) := by
  unfold parts sumB
  by_cases h1 : x.n = 0 <;> by_cases h2 : x.re = 0 ∧ x.im = 0 <;> by_cases h3 : x.c = e0 <;> by_cases h4 : x.m = e0 <;> simp only [h1, h2, h3, h4, if_true, if_false, decide_true, decide_false] <;> rfl

theorem key1 : ∀ a b c d : Bool, (bits .andNot .i64 (sumB a b c d) 1 == 0) = (b && c && d) := by decide

theorem key2 : ∀ a b c d : Bool, (bits .andNot .i64 (sumB a b c d) 2 == 0) = (a && c && d) := by decide

theorem key4 : ∀ a b c d : Bool, (bits .andNot .i64 (sumB a b c d) 4 == 0) = (a && b && d) := by decide

theorem key12 : ∀ a b c d : Bool, (bits .andNot .i64 (sumB a b c d) 12 == 0) = (a && b) := by decide

set_option maxRecDepth 100000 in
set_option maxHeartbeats 2000000 in
theorem checkConst_any (w : World) (x : Cs) (hc : x.c.size ≤ 1099511627776) (hm : x.m.size ≤ 1099511627776) (ah : Value) : Calls Tryz.prog 41 #[csV x, ah] w fun e w' => e = .returned (.int .i64 (ckCs x : Int)) ∧ Fr no w w' := by
  have hpb := parts_b x
  have P0 := partsOf_any (w.alloc (.cells (csC x).toArray 32)) x
  obtain ⟨k, n, re, im, c, m⟩ := x
  simp only [] at hpb hc hm
  have P : Calls Tryz.prog 67 #[.agg #[.int .i64 k, .int .i64 n, .complex .f64 re im, .string c, .string m]] (w.alloc (.cells #[.int .i64 k, .int .i64 n, .complex .f64 re im, .string c, .string m] 32)) fun e w' => e = .returned (.int .i64 (parts ⟨k, n, re, im, c, m⟩)) ∧ Fr no (w.alloc (.cells #[.int .i64 k, .int .i64 n, .complex .f64 re im, .string c, .string m] 32)) w' := P0
  clear P0
  have HF : Hid (Fr no w (w.alloc (.cells #[.int .i64 k, .int .i64 n, .complex .f64 re im, .string c, .string m] 32))) := (Fr.refl no w).alloc _ _
  have O := ownParts_any (w.alloc (.cells #[.int .i64 k, .int .i64 n, .complex .f64 re im, .string c, .string m] 32)) k
  have C3 : ((w.alloc (.cells #[.int .i64 k, .int .i64 n, .complex .f64 re im, .string c, .string m] 32))).cell? ⟨w.heap.size, 3, none⟩ = some (.string c) := by simp
  have C4 : ((w.alloc (.cells #[.int .i64 k, .int .i64 n, .complex .f64 re im, .string c, .string m] 32))).cell? ⟨w.heap.size, 4, none⟩ = some (.string m) := by simp
  have NC := fun w' => isName_any w' c hc
  have NM := fun w' => isName_any w' m hm
  have HC : Hid (ckCs ⟨k, n, re, im, c, m⟩ = ckCs ⟨k, n, re, im, c, m⟩) := rfl
  unfold csV
  simp only []
  generalize hp : parts ⟨k, n, re, im, c, m⟩ = p at *
  by_cases hk : k = 1
  · have hO : own k = 1 := by unfold own; rw [if_pos hk]
    have hz := key1 (decide (n = 0)) (decide (re = 0 ∧ im = 0)) (decide (c = e0)) (decide (m = e0))
    rw [← hpb] at hz
    rw [hO] at O
    by_cases hg : re = 0 ∧ im = 0 ∧ c = e0 ∧ m = e0
    · have hz' : (bits .andNot .i64 p 1 == 0) = true := by rw [hz]; simp [hg]
      clear hz
      have HE : Hid (ckCs ⟨k, n, re, im, c, m⟩ = 0) := by show _ = _; unfold ckCs; rw [if_pos hk]; rw [if_pos hg]
      clear hg hpb hk
      go_enter Tryz.func41, Tryz.ntmps41
      go_wp2_with fail
      refine O.mono ?_
      rintro e w1 ⟨rfl, rfl⟩
      go_wp2_with fail
      refine P.mono ?_
      rintro e w1 ⟨rfl, f1⟩
      have F1 : Hid (Fr no w w1) := HF.out.trans f1 (fun _ _ f => f) (fun _ _ f => f)
      have c0 := f1.cell C3 (fun f => f)
      have c1 := f1.cell C4 (fun f => f)
      clear f1
      go_wp2_with fail
      go_ret
      rw [HE.out]
      exact ⟨rfl, F1.out⟩
    · have hz' : (bits .andNot .i64 p 1 == 0) = false := by rw [hz]; simp; intros; simp_all
      clear hz
      have HE : Hid (ckCs ⟨k, n, re, im, c, m⟩ = 51) := by show _ = _; unfold ckCs; rw [if_pos hk]; rw [if_neg hg]
      clear hg hpb hk
      go_enter Tryz.func41, Tryz.ntmps41
      go_wp2_with fail
      refine O.mono ?_
      rintro e w1 ⟨rfl, rfl⟩
      go_wp2_with fail
      refine P.mono ?_
      rintro e w1 ⟨rfl, f1⟩
      have F1 : Hid (Fr no w w1) := HF.out.trans f1 (fun _ _ f => f) (fun _ _ f => f)
      have c0 := f1.cell C3 (fun f => f)
      have c1 := f1.cell C4 (fun f => f)
      clear f1
      go_wp2_with fail
      go_ret
      rw [HE.out]
      exact ⟨rfl, F1.out⟩
  have h1 := hk
  clear hk
  by_cases hk : k = 2
  · have hO : own k = 2 := by unfold own; rw [if_neg h1, if_pos hk]
    have hz := key2 (decide (n = 0)) (decide (re = 0 ∧ im = 0)) (decide (c = e0)) (decide (m = e0))
    rw [← hpb] at hz
    rw [hO] at O
    by_cases hg : n = 0 ∧ c = e0 ∧ m = e0
    · have hz' : (bits .andNot .i64 p 2 == 0) = true := by rw [hz]; simp [hg]
      clear hz
      have HE : Hid (ckCs ⟨k, n, re, im, c, m⟩ = 0) := by show _ = _; unfold ckCs; rw [if_neg h1, if_pos hk]; rw [if_pos hg]
      clear hg hpb hk
      go_enter Tryz.func41, Tryz.ntmps41
      go_wp2_with fail
      refine O.mono ?_
      rintro e w1 ⟨rfl, rfl⟩
      go_wp2_with fail
      refine P.mono ?_
      rintro e w1 ⟨rfl, f1⟩
      have F1 : Hid (Fr no w w1) := HF.out.trans f1 (fun _ _ f => f) (fun _ _ f => f)
      have c0 := f1.cell C3 (fun f => f)
      have c1 := f1.cell C4 (fun f => f)
      clear f1
      go_wp2_with fail
      go_ret
      rw [HE.out]
      exact ⟨rfl, F1.out⟩
    · have hz' : (bits .andNot .i64 p 2 == 0) = false := by rw [hz]; simp; intros; simp_all
      clear hz
      have HE : Hid (ckCs ⟨k, n, re, im, c, m⟩ = 51) := by show _ = _; unfold ckCs; rw [if_neg h1, if_pos hk]; rw [if_neg hg]
      clear hg hpb hk
      go_enter Tryz.func41, Tryz.ntmps41
      go_wp2_with fail
      refine O.mono ?_
      rintro e w1 ⟨rfl, rfl⟩
      go_wp2_with fail
      refine P.mono ?_
      rintro e w1 ⟨rfl, f1⟩
      have F1 : Hid (Fr no w w1) := HF.out.trans f1 (fun _ _ f => f) (fun _ _ f => f)
      have c0 := f1.cell C3 (fun f => f)
      have c1 := f1.cell C4 (fun f => f)
      clear f1
      go_wp2_with fail
      go_ret
      rw [HE.out]
      exact ⟨rfl, F1.out⟩
  have h2 := hk
  clear hk
  by_cases hk : k = 3
  · have hO : own k = 4 := by unfold own; rw [if_neg h1, if_neg h2, if_pos hk]
    have hz := key4 (decide (n = 0)) (decide (re = 0 ∧ im = 0)) (decide (c = e0)) (decide (m = e0))
    rw [← hpb] at hz
    rw [hO] at O
    by_cases hg : n = 0 ∧ re = 0 ∧ im = 0 ∧ m = e0
    · have hz' : (bits .andNot .i64 p 4 == 0) = true := by rw [hz]; simp [hg]
      clear hz
      by_cases hn : isName c = true
      · have HE : Hid (ckCs ⟨k, n, re, im, c, m⟩ = 0) := by show _ = _; unfold ckCs; rw [if_neg h1, if_neg h2, if_pos hk]; rw [if_pos hg, if_pos hn]
        rw [hn] at NC
        clear hg hpb hk
        go_enter Tryz.func41, Tryz.ntmps41
        go_wp2_with fail
        refine O.mono ?_
        rintro e w1 ⟨rfl, rfl⟩
        go_wp2_with fail
        refine P.mono ?_
        rintro e w1 ⟨rfl, f1⟩
        have F1 : Hid (Fr no w w1) := HF.out.trans f1 (fun _ _ f => f) (fun _ _ f => f)
        have c0 := f1.cell C3 (fun f => f)
        have c1 := f1.cell C4 (fun f => f)
        clear f1
        go_wp2_with fail
        refine (NC w1).mono ?_
        rintro e w2 ⟨rfl, rfl⟩
        go_wp2_with fail
        go_ret
        rw [HE.out]
        exact ⟨rfl, F1.out⟩
      · have HE : Hid (ckCs ⟨k, n, re, im, c, m⟩ = 50) := by show _ = _; unfold ckCs; rw [if_neg h1, if_neg h2, if_pos hk]; rw [if_pos hg, if_neg hn]
        have hn' : isName c = false := by simpa using hn
        rw [hn'] at NC
        clear hg hpb hk
        go_enter Tryz.func41, Tryz.ntmps41
        go_wp2_with fail
        refine O.mono ?_
        rintro e w1 ⟨rfl, rfl⟩
        go_wp2_with fail
        refine P.mono ?_
        rintro e w1 ⟨rfl, f1⟩
        have F1 : Hid (Fr no w w1) := HF.out.trans f1 (fun _ _ f => f) (fun _ _ f => f)
        have c0 := f1.cell C3 (fun f => f)
        have c1 := f1.cell C4 (fun f => f)
        clear f1
        go_wp2_with fail
        refine (NC w1).mono ?_
        rintro e w2 ⟨rfl, rfl⟩
        go_wp2_with fail
        go_ret
        rw [HE.out]
        exact ⟨rfl, F1.out⟩
    · have hz' : (bits .andNot .i64 p 4 == 0) = false := by rw [hz]; simp; intros; simp_all
      clear hz
      have HE : Hid (ckCs ⟨k, n, re, im, c, m⟩ = 51) := by show _ = _; unfold ckCs; rw [if_neg h1, if_neg h2, if_pos hk]; rw [if_neg hg]
      clear hg hpb hk
      go_enter Tryz.func41, Tryz.ntmps41
      go_wp2_with fail
      refine O.mono ?_
      rintro e w1 ⟨rfl, rfl⟩
      go_wp2_with fail
      refine P.mono ?_
      rintro e w1 ⟨rfl, f1⟩
      have F1 : Hid (Fr no w w1) := HF.out.trans f1 (fun _ _ f => f) (fun _ _ f => f)
      have c0 := f1.cell C3 (fun f => f)
      have c1 := f1.cell C4 (fun f => f)
      clear f1
      go_wp2_with fail
      go_ret
      rw [HE.out]
      exact ⟨rfl, F1.out⟩
  have h3 := hk
  clear hk
  by_cases hk : k = 4 ∨ k = 5
  · have hO : own k = 12 := by unfold own; rw [if_neg h1, if_neg h2, if_neg h3, if_pos hk]
    have hz := key12 (decide (n = 0)) (decide (re = 0 ∧ im = 0)) (decide (c = e0)) (decide (m = e0))
    rw [← hpb] at hz
    rw [hO] at O
    by_cases hg : n = 0 ∧ re = 0 ∧ im = 0
    · have hz' : (bits .andNot .i64 p 12 == 0) = true := by rw [hz]; simp [hg]
      clear hz
      by_cases hn : isName c = true
      · by_cases hn2 : isName m = true
        · have HE : Hid (ckCs ⟨k, n, re, im, c, m⟩ = 0) := by show _ = _; unfold ckCs; rw [if_neg h1, if_neg h2, if_neg h3, if_pos hk]; rw [if_pos hg, if_pos ⟨hn, hn2⟩]
          rw [hn] at NC
          rw [hn2] at NM
          clear hg hpb hk
          go_enter Tryz.func41, Tryz.ntmps41
          go_wp2_with fail
          refine O.mono ?_
          rintro e w1 ⟨rfl, rfl⟩
          go_wp2_with fail
          refine P.mono ?_
          rintro e w1 ⟨rfl, f1⟩
          have F1 : Hid (Fr no w w1) := HF.out.trans f1 (fun _ _ f => f) (fun _ _ f => f)
          have c0 := f1.cell C3 (fun f => f)
          have c1 := f1.cell C4 (fun f => f)
          clear f1
          go_wp2_with fail
          refine (NC w1).mono ?_
          rintro e w2 ⟨rfl, rfl⟩
          go_wp2_with fail
          refine (NM w2).mono ?_
          rintro e w3 ⟨rfl, rfl⟩
          go_wp2_with fail
          go_ret
          rw [HE.out]
          exact ⟨rfl, F1.out⟩
        · have HE : Hid (ckCs ⟨k, n, re, im, c, m⟩ = 50) := by show _ = _; unfold ckCs; rw [if_neg h1, if_neg h2, if_neg h3, if_pos hk]; rw [if_pos hg, if_neg (fun h => hn2 h.2)]
          have hn' : isName m = false := by simpa using hn2
          rw [hn] at NC
          rw [hn'] at NM
          clear hg hpb hk
          go_enter Tryz.func41, Tryz.ntmps41
          go_wp2_with fail
          refine O.mono ?_
          rintro e w1 ⟨rfl, rfl⟩
          go_wp2_with fail
          refine P.mono ?_
          rintro e w1 ⟨rfl, f1⟩
          have F1 : Hid (Fr no w w1) := HF.out.trans f1 (fun _ _ f => f) (fun _ _ f => f)
          have c0 := f1.cell C3 (fun f => f)
          have c1 := f1.cell C4 (fun f => f)
          clear f1
          go_wp2_with fail
          refine (NC w1).mono ?_
          rintro e w2 ⟨rfl, rfl⟩
          go_wp2_with fail
          refine (NM w2).mono ?_
          rintro e w3 ⟨rfl, rfl⟩
          go_wp2_with fail
          go_ret
          rw [HE.out]
          exact ⟨rfl, F1.out⟩
      · have HE : Hid (ckCs ⟨k, n, re, im, c, m⟩ = 50) := by show _ = _; unfold ckCs; rw [if_neg h1, if_neg h2, if_neg h3, if_pos hk]; rw [if_pos hg, if_neg (fun h => hn h.1)]
        have hn' : isName c = false := by simpa using hn
        rw [hn'] at NC
        clear hg hpb hk
        go_enter Tryz.func41, Tryz.ntmps41
        go_wp2_with fail
        refine O.mono ?_
        rintro e w1 ⟨rfl, rfl⟩
        go_wp2_with fail
        refine P.mono ?_
        rintro e w1 ⟨rfl, f1⟩
        have F1 : Hid (Fr no w w1) := HF.out.trans f1 (fun _ _ f => f) (fun _ _ f => f)
        have c0 := f1.cell C3 (fun f => f)
        have c1 := f1.cell C4 (fun f => f)
        clear f1
        go_wp2_with fail
        refine (NC w1).mono ?_
        rintro e w2 ⟨rfl, rfl⟩
        go_wp2_with fail
        go_ret
        rw [HE.out]
        exact ⟨rfl, F1.out⟩
    · have hz' : (bits .andNot .i64 p 12 == 0) = false := by rw [hz]; simp; intros; simp_all
      clear hz
      have HE : Hid (ckCs ⟨k, n, re, im, c, m⟩ = 51) := by show _ = _; unfold ckCs; rw [if_neg h1, if_neg h2, if_neg h3, if_pos hk]; rw [if_neg hg]
      clear hg hpb hk
      go_enter Tryz.func41, Tryz.ntmps41
      go_wp2_with fail
      refine O.mono ?_
      rintro e w1 ⟨rfl, rfl⟩
      go_wp2_with fail
      refine P.mono ?_
      rintro e w1 ⟨rfl, f1⟩
      have F1 : Hid (Fr no w w1) := HF.out.trans f1 (fun _ _ f => f) (fun _ _ f => f)
      have c0 := f1.cell C3 (fun f => f)
      have c1 := f1.cell C4 (fun f => f)
      clear f1
      go_wp2_with fail
      go_ret
      rw [HE.out]
      exact ⟨rfl, F1.out⟩
  have h4 := hk
  clear hk
  have hO : own k = 0 := by unfold own; rw [if_neg h1, if_neg h2, if_neg h3, if_neg h4]
  rw [hO] at O
  have HE : Hid (ckCs ⟨k, n, re, im, c, m⟩ = 51) := by show _ = _; unfold ckCs; rw [if_neg h1, if_neg h2, if_neg h3, if_neg h4]
  go_enter Tryz.func41, Tryz.ntmps41
  go_wp2_with fail
  refine O.mono ?_
  rintro e w1 ⟨rfl, rfl⟩
  go_wp2_with fail
  go_ret
  rw [HE.out]
  exact ⟨rfl, HF.out⟩
end Go.Proofs.YtpfkigoffllieaaGreatDoor
