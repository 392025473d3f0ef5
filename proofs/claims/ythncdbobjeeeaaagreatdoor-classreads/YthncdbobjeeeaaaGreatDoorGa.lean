/- Memory, for the layer's proofs: slices of bytes that the calls themselves have made, what a step leaves as it was, and one law on append. -/
import Derived.Test.YthncdbobjeeeaaaGreatDoorRows
import Derived.WalkKit
import Derived.ProofKit
import Derived.WalkMore
import Derived.Deep.AppendSrc
import Derived.Laws.BitsAllLaws
import Derived.ScopeJumps
namespace Go.Proofs.YthncdbobjeeeaaaGreatDoor
open Go.ChangeShapes Go.WideShapes Go.ChangeAt Go.RowKit

theorem Tryz.info5 : (Tryz.prog.info? 5).map (fun i => (i.zero, i.size, i.bytes)) = some (some (.int .u8 0), 1, 1) := by kernel_rfl

/-- The cells of these bytes. -/
def cl (l : List Nat) : List Value := l.map fun c : Nat => Value.int .u8 (c : Int)

theorem cl_length (l : List Nat) : (cl l).length = l.length := by unfold cl; simp

theorem cl_append (l m : List Nat) : cl l ++ cl m = cl (l ++ m) := by unfold cl; simp

theorem cl_get (l : List Nat) (i : Nat) (u : Value) (h : (cl l)[i]? = some u) : ∃ c, l[i]? = some c ∧ u = .int .u8 (c : Int) := by
  unfold cl at h
  rw [List.getElem?_map] at h
  cases e : l[i]? with
  | none => rw [e] at h; simp at h
  | some c => rw [e] at h; simp at h; exact ⟨c, rfl, h.symm⟩

theorem cl_one (l : List Nat) : ∀ u ∈ cl l, u.oneCell' = true := by
  intro u hu
  obtain ⟨_, _, rfl⟩ := List.mem_map.1 hu
  rfl

/-- From w to w' the blocks in S alone may have turned; there may be new ones; no mark of a frozen cell that was there has turned. -/
structure Fr (S : Nat → Prop) (w w' : World) : Prop where
  os : w'.os = w.os
  output : w'.output = w.output
  size : w.heap.size ≤ w'.heap.size
  block : ∀ k, k < w.heap.size → ¬ S k → w'.heap[k]? = w.heap[k]?
  frozen : ∀ a, a.block < w.heap.size → w'.frozen? a = w.frozen? a

theorem Fr.refl (S : Nat → Prop) (w : World) : Fr S w w := ⟨rfl, rfl, Nat.le_refl _, fun _ _ _ => rfl, fun _ _ => rfl⟩

theorem Fr.trans {S T U : Nat → Prop} {a b c : World} (h : Fr S a b) (k : Fr T b c) (hS : ∀ i, i < a.heap.size → S i → U i) (hT : ∀ i, i < a.heap.size → T i → U i) : Fr U a c :=
  ⟨k.os.trans h.os, k.output.trans h.output, Nat.le_trans h.size k.size,
    fun i hi hu => (k.block i (Nat.lt_of_lt_of_le hi h.size) (fun t => hu (hT i hi t))).trans (h.block i hi (fun t => hu (hS i hi t))),
    fun x hx => (k.frozen x (Nat.lt_of_lt_of_le hx h.size)).trans (h.frozen x hx)⟩

theorem Fr.mono {S U : Nat → Prop} {a b : World} (h : Fr S a b) (hS : ∀ i, i < a.heap.size → S i → U i) : Fr U a b :=
  h.trans (Fr.refl S b) hS hS

theorem Fr.alloc {S : Nat → Prop} {a w : World} (h : Fr S a w) (c : Array Value) (t : TypeId) : Fr S a (w.alloc (.cells c t)) :=
  ⟨h.os, h.output, Nat.le_trans h.size (by show w.heap.size ≤ (w.heap.push _).size; simp), fun k hk hs => (Below.heap_alloc w _ k (Nat.lt_of_lt_of_le hk h.size)).trans (h.block k hk hs),
    fun x hx => (frozen?_alloc_cells _ _ _ x).trans (h.frozen x hx)⟩

theorem Fr.drew {S : Nat → Prop} {a w : World} (h : Fr S a w) : Fr S a w.drew := ⟨h.os, h.output, h.size, h.block, h.frozen⟩

theorem frozen_setCell (w : World) (p : Addr) (u : Value) (a : Addr) : (w.setCell p u).frozen? a = w.frozen? a := by
  unfold World.frozen? World.setCell
  simp only [Array.getElem?_modify]
  by_cases hx : p.block = a.block
  · rw [if_pos hx]
    cases e : w.heap[a.block]? with
    | none => simp
    | some o => cases o <;> simp
  · rw [if_neg hx]

theorem frozen_setRow (w : World) (g : Nat) (cs : Array Value) (x : Addr) : (w.setRow g cs).frozen? x = w.frozen? x := by
  unfold World.frozen? World.setRow
  simp only [Array.getElem?_modify]
  by_cases hx : g = x.block
  · rw [if_pos hx]
    cases e : w.heap[x.block]? with
    | none => simp
    | some o => cases o <;> simp
  · rw [if_neg hx]

theorem Fr.setCell {S : Nat → Prop} {a w : World} (h : Fr S a w) {p : Addr} (hp : p.block < a.heap.size → S p.block) (u : Value) : Fr S a (w.setCell p u) :=
  ⟨h.os, h.output, by simpa [World.setCell] using h.size, fun k hk hs => (Below.heap_setCell w p u k (fun e => hs (e ▸ hp (e ▸ hk)))).trans (h.block k hk hs),
    fun x hx => (frozen_setCell w p u x).trans (h.frozen x hx)⟩

theorem Fr.cell {S : Nat → Prop} {w w' : World} (h : Fr S w w') {p : Addr} {u : Value} (hc : w.cell? p = some u) (hp : ¬ S p.block) : w'.cell? p = some u :=
  (World.cell?_of_block (h.block p.block (World.block_lt_of_cell? w p hc) hp)).trans hc

theorem lt_of_heap {w : World} {k : Nat} {o : Obj} (h : w.heap[k]? = some o) : k < w.heap.size := (Array.getElem?_eq_some_iff.1 h).1

theorem Fr.heap {S : Nat → Prop} {w w' : World} (h : Fr S w w') {k : Nat} {o : Obj} (hc : w.heap[k]? = some o) (hp : ¬ S k) : w'.heap[k]? = some o :=
  (h.block k (lt_of_heap hc) hp).trans hc

/-- v is nil, or begins at the head of a row of bytes that isn't frozen; its bytes are l. -/
def Own (w : World) (v : Value) (l : List Nat) : Prop := w.ownsRow 0 5 1 v l.length (cl l)

theorem Own.nil (w : World) : Own w (.slice none 0 0) [] := World.ownsRow_nil _ _ _ _

theorem Own.lt {w : World} {v : Value} {l : List Nat} (h : Own w v l) {k : Nat} (hk : v.ownBlock = some k) : k < w.heap.size := (World.ownsRow.lt h k hk).2

theorem Own.kept {S : Nat → Prop} {w w' : World} {v : Value} {l : List Nat} (h : Own w v l) (hf : Fr S w w') (hS : ∀ k, v.ownBlock = some k → ¬ S k) : Own w' v l := by
  refine ⟨h.1, ?_⟩
  rcases h.2 with hn | ⟨g, cap, cur, rfl, hb, hgg, rest⟩
  · exact .inl hn
  · exact .inr ⟨g, cap, cur, rfl, hb, hf.heap hgg (hS g rfl), rest⟩

/-- A step that may turn the blocks in q and the row of v, and leaves v' in v's place: v' lies in v's row or in new memory. -/
def Sp (q : Nat → Prop) (v : Value) (w : World) (v' : Value) (w' : World) : Prop :=
  Fr (fun k => q k ∨ v.ownBlock = some k) w w' ∧ ∀ k, k < w.heap.size → v'.ownBlock = some k → v.ownBlock = some k

theorem Sp.refl (q : Nat → Prop) (v : Value) (w : World) : Sp q v w v w := ⟨Fr.refl _ _, fun _ _ h => h⟩

theorem Sp.trans {q : Nat → Prop} {v v1 v2 : Value} {w w1 w2 : World} (h : Sp q v w v1 w1) (k : Sp q v1 w1 v2 w2) : Sp q v w v2 w2 :=
  ⟨h.1.trans k.1 (fun _ _ s => s) (fun i hi s => s.elim .inl (fun e => .inr (h.2 i hi e))),
    fun i hi e => h.2 i hi (k.2 i (Nat.lt_of_lt_of_le hi h.1.size) e)⟩

theorem Sp.mono {q q' : Nat → Prop} {v v' : Value} {w w' : World} (h : Sp q v w v' w') (hq : ∀ i, i < w.heap.size → q i → q' i) : Sp q' v w v' w' :=
  ⟨h.1.mono (fun i hi s => s.elim (fun a => .inl (hq i hi a)) .inr), h.2⟩

/-- New memory alone ahead of a step. -/
theorem Sp.after {q S : Nat → Prop} {v v' : Value} {w0 w w' : World} (hf : Fr S w0 w) (h : Sp q v w v' w') (hS : ∀ i, i < w0.heap.size → S i → q i) : Sp q v w0 v' w' :=
  ⟨hf.trans h.1 (fun i hi s => .inl (hS i hi s)) (fun _ _ s => s), fun k hk e => h.2 k (Nat.lt_of_lt_of_le hk hf.size) e⟩

theorem Sp.then {q S : Nat → Prop} {v v' : Value} {w w' w2 : World} (h : Sp q v w v' w') (hf : Fr S w' w2) (hS : ∀ i, i < w.heap.size → S i → q i) : Sp q v w v' w2 :=
  ⟨h.1.trans hf (fun _ _ s => s) (fun i hi s => .inl (hS i hi s)), h.2⟩

def no : Nat → Prop := fun _ => False

theorem run_apd (w : World) (v : Value) (l : List Nat) (hown : Own w v l) (tx : TypeId) (x : Value) (m : List Nat) (hs : Src Tryz.prog 1 tx x m.length (cl m) w)
    (hb : l.length + m.length ≤ 1099511627776) :
    ∃ v' w', (Builtin.append_ #[22, tx] 22 #[v, x]).run Tryz.prog w = .ok v' w' ∧ Own w' v' (l ++ m) ∧ Sp no v w v' w' := by
  obtain ⟨i0, hi, hz0, hz1, hz2⟩ := info_parts Tryz.info5
  have ht := Tryz.underlying22
  have hlen : (cl (l ++ m)).length = (l ++ m).length * 1 := by rw [cl_length]; omega
  have grown : ∀ (b : Option Addr) (sCap : Nat), v = .slice b l.length sCap → sCap < l.length + m.length →
      (Builtin.firstCells i0.size l.length (.slice b l.length sCap)).run Tryz.prog w.drew = .ok (cl l).toArray w.drew →
      ∃ v' w', (Builtin.append_ #[22, tx] 22 #[v, x]).run Tryz.prog w = .ok v' w' ∧ Own w' v' (l ++ m) ∧ Sp no v w v' w' := by
    intro b sCap hv hlt hold
    subst hv
    have hr := run_append_grow_src (P := Tryz.prog) w 22 tx 22 5 i0 (.int .u8 0) ht hi hz0 b l.length sCap (cl l) hold x m.length (cl m) (by rw [hz1]; exact hs) hlt (by omega)
      (by rw [hz2]; exact growslice_fits (by omega) (by omega))
    have hge := grownCap_ge w (l.length + m.length) sCap 5
    have hcm : grownCap w (l.length + m.length) sCap 5 ≤ maxLen := grownCap_le_maxLen w _ sCap 5 (by unfold maxLen; omega)
    refine ⟨_, _, hr, ⟨hlen, .inr ⟨w.heap.size, grownCap w (l.length + m.length) sCap 5, _, ?_, Nat.zero_le _, heap_alloc_new w.drew _, ?_, hcm, ?_, ?_⟩⟩, ?_⟩
    · simp
    · simpa using hge
    · simp only [Array.size_append, List.size_toArray, size_zeroCells, List.length_append, cl_length]
      have : (Value.cells (.int .u8 0)).size = 1 := rfl
      rw [this]
      omega
    · rw [cl_append, Array.toList_append]
      simp only []
      rw [List.take_append_of_le_length (by rw [cl_length]; omega)]
      exact List.take_of_length_le (by rw [cl_length]; omega)
    · exact ⟨(Fr.refl _ w).drew.alloc _ _, fun k hk e => by simp [Value.ownBlock] at e; omega⟩
  rcases hown.2 with ⟨hv, hl0⟩ | ⟨g, cap, cur, hv, hbg, hg, hnc, hcm, hcs, htake⟩
  · have hl : l = [] := List.eq_nil_of_length_eq_zero hl0
    by_cases hm : m.length = 0
    · have hmn : m = [] := List.eq_nil_of_length_eq_zero hm
      subst hmn hl hv
      refine ⟨.slice none 0 0, w, ?_, Own.nil w, Sp.refl _ _ _⟩
      have h1 := hs.len
      have h2 := hs.cells
      rcases hs.kind with ⟨e', hk⟩ | hk <;> simp at h1 h2 <;> simp [Builtin.append_, run_underlying ht, run_underlying hk, sizeOf, typeInfo, hi, hz1, h1, h2, cl]
    · refine grown none 0 (by rw [hv, hl0]) (by omega) ?_
      subst hl
      simpa [cl] using run_firstCells_none (P := Tryz.prog) w.drew i0.size 0 0 0
  · by_cases hroom : l.length + m.length ≤ cap
    · subst hv
      have hst := run_storeCells_at Tryz.prog g (l.length * i0.size) 5 (cl m) 0 cur w hg (by rw [hz1, cl_length]; omega) (cl_one m)
      simp only [Nat.add_zero] at hst
      refine ⟨.slice (some ⟨g, 0, none⟩) (l.length + m.length) cap, w.setRow g (cur.toList.take (l.length * i0.size) ++ cl m ++ cur.toList.drop (l.length * i0.size + (cl m).length)).toArray, ?_, ?_, ?_⟩
      · rcases hs.kind with ⟨e', hk⟩ | hk <;> simp [Builtin.append_, run_underlying ht, run_underlying hk, sizeOf, typeInfo, hi, hs.len, hroom, hz1, hs.cells, Addr.add_lit] <;> (rw [hz1] at hst; simp at hst; simp [hst])
      · refine ⟨hlen, .inr ⟨g, cap, _, by simp, hbg, setRow_heap w g cur _ 5 _ hg, by simpa using hroom, hcm, ?_, ?_⟩⟩
        · simp only [List.size_toArray, List.length_append, List.length_take, List.length_drop, Array.length_toList, cl_length, hz1]
          omega
        · rw [hz1, htake, cl_append]
          exact List.take_left' (by rw [cl_length]; omega)
      · exact ⟨⟨rfl, rfl, by rw [setRow_size]; exact Nat.le_refl _, fun k hk hs => setRow_other w g k _ (fun e => hs (.inr (by simp [Value.ownBlock, e]))), fun a _ => frozen_setRow w g _ a⟩, fun k _ e => by simpa [Value.ownBlock] using e⟩
    · refine grown (some ⟨g, 0, none⟩) cap hv (by omega) ?_
      rw [hz1]
      refine run_firstCells_some (P := Tryz.prog) w.drew 1 l.length ⟨g, 0, none⟩ l.length cap (cl l) (by rw [cl_length]; omega) ?_
      intro j u hj
      simpa using World.ownsRow.cells hown (g := g) (by rw [hv]; rfl) j u hj

theorem wpList_apd (w : World) {ops : Array Oper} {rest : List Oper} {o : Oper} {a : Act} {Q : Exit → Act → World → Prop}
    (hg : o.guard = none) (ht : o.type = 22) (s x : Operand) (tx : TypeId) (hop : o.op = Op.call { callee := Callee.builtin Builtin.append, args := #[s, x], argTypes := #[22, tx] })
    (v : Value) (l : List Nat) (hs : a.eval s = v) (hown : Own w v l) (xv : Value) (hx : a.eval x = xv) (m : List Nat) (hsrc : Src Tryz.prog 1 tx xv m.length (cl m) w)
    (hb : l.length + m.length ≤ 1099511627776)
    (hK : ∀ v' w', Own w' v' (l ++ m) → Sp no v w v' w' → wpList Tryz.prog ops Q rest (a.put o.dst v') w') :
    wpList Tryz.prog ops Q (o :: rest) a w := by
  refine wpList_plain hg fun K hK' => ?_
  obtain ⟨v', w', hrun, r1, r2⟩ := run_apd w v l hown tx xv m hsrc hb
  unfold Oper.wp
  simp [execOp, hop, ht, resolve, invoke, builtin, hs, hx, hrun, Result.andThen]
  exact hK' _ _ (hK v' w' r1 r2)
end Go.Proofs.YthncdbobjeeeaaaGreatDoor

/- Numbers and bytes, without memory: a number's groups, what is read of bytes, signs folded in, and what one has to do with the other. -/
namespace Go.Proofs.YthncdbobjeeeaaaGreatDoor

/-- The groups of n: at most f behind the first. -/
def en : Nat → Nat → List Nat
  | 0, n => [n % 256]
  | f + 1, n => if n < 128 then [n] else (n % 128 + 128) :: en f (n / 128)

/-- The groups of n. -/
def enc (n : Nat) : List Nat := en 9 n

/-- What a reader makes of bytes, i groups that made n ahead: a number, an error, how many bytes. -/
def rd : List Nat → Nat → Nat → Nat × Nat × Nat
  | [], _, _ => (0, 30, 0)
  | c :: cs, i, n =>
    if i = 9 ∧ c ≠ 1 then (0, 31, 0)
    else if c < 128 then (if 0 < i ∧ c = 0 then (0, 31, 0) else (n + c * 2 ^ (7 * i), 0, i + 1))
    else rd cs (i + 1) (n + (c - 128) * 2 ^ (7 * i))

theorem en_byte (f n : Nat) : ∀ c ∈ en f n, c < 256 := by
  induction f generalizing n with
  | zero => intro c hc; simp [en] at hc; omega
  | succ f ih =>
    intro c hc
    unfold en at hc
    split at hc
    · simp at hc; omega
    · rcases List.mem_cons.1 hc with rfl | h
      · omega
      · exact ih _ c h

theorem en_length (f n : Nat) : 0 < (en f n).length ∧ (en f n).length ≤ f + 1 := by
  induction f generalizing n with
  | zero => simp [en]
  | succ f ih =>
    unfold en
    split
    · simp
    · have := ih (n / 128); simp; omega

theorem enc_length (n : Nat) : 0 < (enc n).length ∧ (enc n).length ≤ 10 := en_length 9 n

/-- What is written is read. -/
theorem rd_en (f n : Nat) (i m : Nat) (l : List Nat) (hf : f + i = 9) (hn : n < 2 ^ (64 - 7 * i)) (h0 : 0 < i → 0 < n) : rd (en f n ++ l) i m = (m + n * 2 ^ (7 * i), 0, i + (en f n).length) := by
  induction f generalizing n i m with
  | zero =>
    have : i = 9 := by omega
    subst this
    have h1 : n = 1 := by have := h0 (by omega); simp at hn; omega
    subst h1
    simp [en, rd]
  | succ f ih =>
    have hi : i < 9 := by omega
    have hi9 : ¬ i = 9 := by omega
    unfold en
    by_cases h : n < 128
    · rw [if_pos h]
      have : ¬ (0 < i ∧ n = 0) := by omega
      simp [rd, hi9, h, this]
    · rw [if_neg h]
      have e : ¬ (n % 128 + 128) < 128 := by omega
      have e2 : n % 128 + 128 - 128 = n % 128 := by omega
      have hp : (2 : Nat) ^ (7 * (i + 1)) = 128 * 2 ^ (7 * i) := by rw [show 7 * (i + 1) = 7 + 7 * i by omega, Nat.pow_add]
      have hq : n / 128 < 2 ^ (64 - 7 * (i + 1)) := by
        have : (2 : Nat) ^ (64 - 7 * i) = 128 * 2 ^ (64 - 7 * (i + 1)) := by rw [show 64 - 7 * i = 7 + (64 - 7 * (i + 1)) by omega, Nat.pow_add]
        omega
      rw [List.cons_append, rd]
      simp only [hi9, false_and, if_false, e, e2]
      rw [ih (n / 128) (i + 1) _ (by omega) hq (by omega), hp]
      refine Prod.ext ?_ (Prod.ext rfl ?_)
      · simp only []
        have hd : n = 128 * (n / 128) + n % 128 := (Nat.div_add_mod n 128).symm
        generalize 2 ^ (7 * i) = p at *
        have : n * p = n / 128 * (128 * p) + n % 128 * p := by
          have h2 : n * p = (128 * (n / 128) + n % 128) * p := by rw [← hd]
          rw [h2, Nat.add_mul, Nat.mul_comm 128, Nat.mul_assoc]
        omega
      · simp only [List.length_cons]
        omega

theorem rd_enc (n : Nat) (l : List Nat) (hn : n < 2 ^ 64) : rd (enc n ++ l) 0 0 = (n, 0, (enc n).length) := by
  have := rd_en 9 n 0 0 l rfl (by simpa using hn) (by omega)
  simpa [enc] using this

theorem or_128 (k : Nat) (h : k < 256) : k ||| 128 = k % 128 + 128 := by
  have key : ∀ d : Fin 256, d.val ||| 128 = d.val % 128 + 128 := by decide +kernel
  exact key ⟨k, h⟩

theorem or8 (m : Nat) : bits .or .u8 ((m : Int) % 256) 128 = ((m % 128 + 128 : Nat) : Int) := by
  have h := u8_or_nat (m % 256) 128 (by omega) (by omega)
  rw [or_128 _ (by omega)] at h
  rw [show m % 256 % 128 = m % 128 by omega] at h
  simpa using h

theorem or64 (n c i : Nat) (hn : n < 2 ^ i) (h : n + c * 2 ^ i < 2 ^ 64) : bits .or .u64 (n : Int) ((c * 2 ^ i : Nat) : Int) = ((n + c * 2 ^ i : Nat) : Int) := by
  rw [u64_or_nat n (c * 2 ^ i) (by omega) (by omega), Nat.or_comm, Nat.mul_comm c, ← Nat.two_pow_add_eq_or_of_lt hn c, Nat.add_comm]

theorem en_step (f m : Nat) (h : 128 ≤ m) : en (f + 1) m = (m % 128 + 128) :: en f (m / 128) := by
  show (if m < 128 then [m] else (m % 128 + 128) :: en f (m / 128)) = _
  rw [if_neg (by omega)]

theorem en_small (f m : Nat) (h : m < 128) : en f m = [m] := by
  cases f with
  | zero => simp [en]; omega
  | succ f => show (if m < 128 then [m] else (m % 128 + 128) :: en f (m / 128)) = _; rw [if_pos h]

def nl (s : ByteArray) : List Nat := s.data.toList.map UInt8.toNat
def bstr (l : List Nat) : ByteArray := ⟨(l.map UInt8.ofNat).toArray⟩

theorem nl_bstr (l : List Nat) (h : ∀ c ∈ l, c < 256) : nl (bstr l) = l := by
  unfold nl bstr
  simp only [List.map_map]
  rw [List.map_congr_left (g := id) (fun c hc => by simp [Nat.mod_eq_of_lt (h c hc)])]
  simp
theorem bstr_nl (s : ByteArray) : bstr (nl s) = s := by
  unfold nl bstr
  simp [Function.comp_def]
theorem nl_inj {s t : ByteArray} (h : nl s = nl t) : s = t := by rw [← bstr_nl s, ← bstr_nl t, h]
theorem nl_length (s : ByteArray) : (nl s).length = s.size := by simp [nl]
theorem nl_get (s : ByteArray) (k : Nat) (h : k < s.size) : (nl s)[k]? = some s[k].toNat := by
  unfold nl
  have h' : k < s.data.toList.length := by simpa using h
  rw [List.getElem?_map, List.getElem?_eq_getElem h']
  rfl
theorem nl_append (s t : ByteArray) : nl (s ++ t) = nl s ++ nl t := by
  unfold nl
  rw [ByteArray.data_append, Array.toList_append, List.map_append]
theorem bstr_size (l : List Nat) : (bstr l).size = l.length := by unfold bstr; simp [ByteArray.size]
theorem bstr_append (l m : List Nat) : bstr l ++ bstr m = bstr (l ++ m) := by
  apply ByteArray.ext
  rw [ByteArray.data_append]
  unfold bstr
  simp
theorem nl_lt (s : ByteArray) : ∀ c ∈ nl s, c < 256 := by
  intro c hc
  unfold nl at hc
  obtain ⟨u, _, rfl⟩ := List.mem_map.1 hc
  exact u.toNat_lt

theorem xor_ones (k : Nat) (h : k < 2 ^ 64) : (2 ^ 64 - 1) ^^^ k = 2 ^ 64 - 1 - k := by
  have e : (BitVec.allOnes 64 ^^^ BitVec.ofNat 64 k).toNat = (~~~ (BitVec.ofNat 64 k)).toNat := by rw [BitVec.allOnes_xor]
  rw [BitVec.toNat_xor, BitVec.toNat_not, BitVec.toNat_allOnes, BitVec.toNat_ofNat, Nat.mod_eq_of_lt h] at e
  exact e

theorem xor_neg (n : Int) (h1 : -9223372036854775808 ≤ n) (h2 : n ≤ 9223372036854775807) : bits .xor .i64 (-1) n = - n - 1 := by
  unfold bits
  simp only [BitVec.toNat_xor, BitVec.toNat_ofInt]
  have e1 : ((-1 : Int) % ((2 ^ IntKind.i64.bits : Nat) : Int)).toNat = 2 ^ 64 - 1 := by decide
  rw [e1]
  have hlt : (n % ((2 ^ IntKind.i64.bits : Nat) : Int)).toNat < 2 ^ 64 := by simp [IntKind.bits]; omega
  rw [xor_ones _ hlt]
  simp [IntKind.wrap, IntKind.signed, IntKind.bits]
  omega

/-- A number with its sign folded in. -/
def fo (n : Int) : Nat := if n < 0 then (- n - 1).toNat * 2 + 1 else n.toNat * 2
/-- The number of which that is made. -/
def unf (u : Nat) : Int := if u % 2 = 1 then - ((u / 2 : Nat) : Int) - 1 else ((u / 2 : Nat) : Int)

theorem unf_fo (n : Int) : unf (fo n) = n := by
  unfold unf fo
  split <;> split <;> omega

theorem fo_lt (n : Int) (h1 : -9223372036854775808 ≤ n) (h2 : n ≤ 9223372036854775807) : fo n < 2 ^ 64 := by
  unfold fo
  split <;> omega

theorem or_one (k : Nat) (h : k * 2 + 1 < 2 ^ 64) : bits .or .u64 ((k : Int) * 2) 1 = ((k * 2 + 1 : Nat) : Int) := by
  have := or64 1 k 1 (by omega) (by omega)
  rw [show (k : Int) * 2 = ((k * 2 : Nat) : Int) by omega, show (1 : Int) = ((1 : Nat) : Int) from rfl]
  rw [u64_or_nat _ _ (by omega) (by omega), Nat.or_comm]
  rw [u64_or_nat _ _ (by omega) (by omega)] at this
  simp only [Nat.pow_one] at this
  omega
end Go.Proofs.YthncdbobjeeeaaaGreatDoor

/- A law of the walk: a scope in which the run jumps to a label: what holds at each jump, and a measure that each pass from the label lowers. -/
namespace Go.Proofs.YthncdbobjeeeaaaGreatDoor
section
variable {P : Program} {a : Act} {w : World} {Q : Exit → Act → World → Prop}

/-- As Q; by a goto to a label l: J l. -/
def jumps (J : Nat → Act → World → Prop) (Q : Exit → Act → World → Prop) : Exit → Act → World → Prop
  | .goto l, a, w => J l a w
  | e, a, w => Q e a w

theorem wp_labels {c : Code} (J : Nat → Act → World → Prop) (μ : Nat → Act → World → Nat)
    (first : c.wp P (jumps J Q) a w)
    (pass : ∀ l a w, J l a w → ∃ R, findLabel c l = some (.seq .skip R) ∧ R.wp P (jumps (fun l' a' w' => J l' a' w' ∧ μ l' a' w' < μ l a w) Q) a w) : (Code.scope c).wp P Q a w := by
  intro b k cs
  have key : ∀ n l a w, μ l a w = n → J l a w → ∃ e a' w', Q e a' w' ∧ ∃ k0, gotoIn l (.inScope c :: k) = some k0 ∧ Arrives P (lone (b.at a k0) cs w) b k cs e a' w' := by
    intro n
    induction n using Nat.strongRecOn with
    | _ n ih =>
      intro l a w hn hJ
      obtain ⟨R, hf, hR⟩ := pass l a w hJ
      have hg : gotoIn l (.inScope c :: k) = some (.code (.seq .skip R) :: .inScope c :: k) := by simp [gotoIn, hf]
      obtain ⟨e, a₁, w₁, hq, harr⟩ := hR b (.inScope c :: k) cs
      have hs : Steps P (lone (b.at a (.code (.seq .skip R) :: .inScope c :: k)) cs w) (lone (b.at a (.code R :: .inScope c :: k)) cs w) :=
        .head step_seq (.one step_skip)
      have harr' := Arrives.of_steps hs harr
      cases e with
      | normal => exact ⟨.normal, a₁, w₁, hq, _, hg, Steps.trans harr' (.one step_inScope)⟩
      | exit id => exact ⟨.exit id, a₁, w₁, hq, _, hg, fun k' hk => harr' k' (by simp [exitTo, hk])⟩
      | goto l' =>
        obtain ⟨hJ', hlt⟩ := hq
        obtain ⟨e₂, a₂, w₂, hq₂, k2, hg2, harr₂⟩ := ih _ (by omega) l' a₁ w₁ rfl hJ'
        exact ⟨e₂, a₂, w₂, hq₂, _, hg, .of_steps (harr' _ hg2) harr₂⟩
      | ret => exact ⟨_, a₁, w₁, hq, _, hg, harr'⟩
      | panic ch => exact ⟨_, a₁, w₁, hq, _, hg, harr'⟩
      | outgrown => exact ⟨_, a₁, w₁, hq, _, hg, harr'⟩
  obtain ⟨e, a₁, w₁, hq, harr⟩ := first b (.inScope c :: k) cs
  cases e with
  | normal => exact ⟨.normal, a₁, w₁, hq, .head step_scope (Steps.trans harr (.one step_inScope))⟩
  | exit id => exact ⟨.exit id, a₁, w₁, hq, fun k' hk => .head step_scope (harr k' (by simp [exitTo, hk]))⟩
  | goto l' =>
    obtain ⟨e₂, a₂, w₂, hq₂, k2, hg2, harr₂⟩ := key _ l' a₁ w₁ rfl hq
    exact ⟨e₂, a₂, w₂, hq₂, .of_steps (.head step_scope (harr _ hg2)) harr₂⟩
  | ret => exact ⟨_, a₁, w₁, hq, .of_steps (.one step_scope) harr⟩
  | panic ch => exact ⟨_, a₁, w₁, hq, .of_steps (.one step_scope) harr⟩
  | outgrown => exact ⟨_, a₁, w₁, hq, .of_steps (.one step_scope) harr⟩

/-- One label. 'K': what is wanted behind, a letter: the walks carry nothing of it. -/
theorem wp_label_one {c R0 : Code} (l0 : Nat) (J0 : Act → World → Prop) (μ : Act → World → Nat) (hf0 : findLabel c l0 = some (.seq .skip R0))
    (first : ∀ K : Exit → Act → World → Prop, (∀ a w, J0 a w → R0.wp P K a w) → (∀ a w, Q .ret a w → K .ret a w) → (∀ a w, Q .normal a w → K .normal a w) → c.wp P K a w)
    (pass0 : ∀ a w, J0 a w → ∀ K : Exit → Act → World → Prop, (∀ a' w', J0 a' w' → μ a' w' < μ a w → K (.goto l0) a' w') → (∀ a w, Q .ret a w → K .ret a w) → (∀ a w, Q .normal a w → K .normal a w) → R0.wp P K a w) :
    (Code.scope c).wp P Q a w := by
  refine wp_labels (fun l a w => l = l0 ∧ J0 a w) (fun _ => μ) ?_ ?_
  · exact first _ (fun a w h => pass0 a w h _ (fun _ _ h' _ => ⟨rfl, h'⟩) (fun _ _ h' => h') (fun _ _ h' => h')) (fun _ _ h => h) (fun _ _ h => h)
  · rintro l a w ⟨rfl, h⟩
    exact ⟨R0, hf0, pass0 a w h _ (fun _ _ h' hl => ⟨⟨rfl, h'⟩, hl⟩) (fun _ _ h' => h') (fun _ _ h' => h')⟩
end
end Go.Proofs.YthncdbobjeeeaaaGreatDoor

/- What the methods of a writer do: each adds its bytes to what was written, and turns nothing else. -/
namespace Go.Proofs.YthncdbobjeeeaaaGreatDoor
open Go.ChangeShapes Go.WideShapes Go.ChangeAt Go.RowKit

/-- A writer at block p, that holds v: the bytes l. -/
def Wt (w : World) (p : Nat) (v : Value) (l : List Nat) : Prop := w.heap[p]? = some (.cells #[v] 149 (0, 0)) ∧ Own w v l

theorem Own.shape {w : World} {v : Value} {l : List Nat} (h : Own w v l) : ∃ o cap, v = .slice o l.length cap := by
  rcases h.2 with ⟨rfl, h0⟩ | ⟨g, cap, cur, rfl, _⟩
  · exact ⟨_, _, by rw [h0]⟩
  · exact ⟨_, _, rfl⟩

theorem Wt.apart {w : World} {p : Nat} {v : Value} {l : List Nat} (h : Wt w p v l) : v.ownBlock ≠ some p := by
  intro e
  rcases h.2.2 with ⟨rfl, _⟩ | ⟨g, cap, cur, rfl, hb, hgg, rest⟩
  · simp [Value.ownBlock] at e
  · simp [Value.ownBlock] at e
    subst e
    rw [h.1] at hgg
    simp at hgg

theorem Wt.kept {S : Nat → Prop} {w w' : World} {p : Nat} {v : Value} {l : List Nat} (h : Wt w p v l) (hf : Fr S w w') (hp : ¬ S p) (hS : ∀ k, v.ownBlock = some k → ¬ S k) : Wt w' p v l :=
  ⟨hf.heap h.1 hp, h.2.kept hf hS⟩

theorem Wt.next {w w' : World} {p : Nat} {v v' : Value} {l m : List Nat} (h : Wt w p v l) (hs : Sp no v w v' w') (ho : Own w' v' m) :
    Wt (w'.setCell ⟨p, 0, none⟩ v') p v' m ∧ Sp (fun k => k = p) v w v' (w'.setCell ⟨p, 0, none⟩ v') := by
  have hlt := lt_of_heap h.1
  have hp : w'.heap[p]? = some (.cells #[v] 149 (0, 0)) := hs.1.heap h.1 (fun e => e.elim id (fun e => h.apart e))
  have hne : v'.ownBlock ≠ some p := fun e => h.apart (hs.2 p hlt e)
  have hf : Fr (fun k => k = p) w' (w'.setCell ⟨p, 0, none⟩ v') := (Fr.refl (fun k => k = p) w').setCell (p := ⟨p, 0, none⟩) (fun _ => rfl) _
  refine ⟨⟨one_setCell hp, ho.kept hf (fun k hk e => hne (e ▸ hk))⟩, ?_⟩
  exact (hs.mono (fun _ _ f => f.elim)).then hf (fun _ _ e => e)

theorem Sp.alloc {q : Nat → Prop} {v v' : Value} {w w' : World} {c : Array Value} {t : TypeId} (h : Sp q v (w.alloc (.cells c t)) v' w') : Sp q v w v' w' :=
  h.after ((Fr.refl q w).alloc c t) (fun _ _ s => s)

theorem Wt.alloc {w : World} {p : Nat} {v : Value} {l : List Nat} (h : Wt w p v l) (c : Array Value) (t : TypeId) : Wt (w.alloc (.cells c t)) p v l :=
  h.kept ((Fr.refl no w).alloc c t) (fun f => f) (fun _ _ f => f)

theorem src_one (w : World) (c : Nat) : Src Tryz.prog 1 22 (.slice (some ⟨w.heap.size, 0, none⟩) 1 1) ([c] : List Nat).length (cl [c]) (w.alloc (.cells #[.int .u8 (c : Int)] 5)) :=
  Src.ofSlice _ Tryz.underlying22 _ _ _ _ rfl (fun j u hj => by
    match j, hj with
    | 0, hj => simp [cl] at hj; subst hj; simp [Addr.add]) (cl_one _)

theorem byte_any (w : World) (p : Nat) (v : Value) (l : List Nat) (h : Wt w p v l) (hb : l.length + 1 ≤ 1099511627776) (c : Nat) :
    Calls Tryz.prog 41 #[.pointer (some ⟨p, 0, none⟩), .int .u8 (c : Int)] w fun e w' => e = .returned (.tuple #[]) ∧ ∃ v', Wt w' p v' (l ++ [c]) ∧ Sp (fun k => k = p) v w v' w' := by
  have hc : w.cell? ⟨p, 0, none⟩ = some v := cell_of_one h.1
  obtain ⟨o, cap, rfl⟩ := h.2.shape
  have h1 := h.alloc #[.int .u8 (c : Int)] 5
  have hS := src_one w c
  go_enter Tryz.func41, Tryz.ntmps41
  go_wp2_with (at_builtin; refine wpList_apd _ rfl rfl (.tmp 8) (.tmp 10) 22 rfl _ l rfl h1.2 _ rfl [c] hS hb ?_; intro v' w' hown hsp; have hp' := hsp.1.heap h1.1 (fun e => e.elim id (fun e => h1.apart e)); have hcw := cell_of_one hp'; have hfw := free_of_one hp'; clear hp'; obtain ⟨o', cap', rfl⟩ := hown.shape)
  go_end0
  obtain ⟨r1, r2⟩ := h1.next hsp hown
  simp only [List.length_append, List.length_cons, List.length_nil, Nat.zero_add] at r1 r2
  exact ⟨rfl, _, r1, r2.alloc⟩

def UintAt (w0 : World) (p : Nat) (v0 : Value) (all : List Nat) (a : Act) (w : World) : Prop :=
  ∃ (f m : Nat) (v : Value) (l : List Nat) (v1 u2 u3 u4 u5 u6 u7 u8 u9 u10 u11 u12 u13 u14 u15 u16 : Value),
    a = { tmps := #[.pointer (some ⟨p, 0, none⟩), v1, u2, u3, u4, u5, u6, u7, u8, u9, u10, u11, u12, u13, u14, u15, u16], defers := [] } ∧ v1 = .int .u64 (m : Int) ∧
    Wt w p v l ∧ Sp (fun k => k = p) v0 w0 v w ∧ l ++ en f m = all ∧ m < 2 ^ (7 * f + 1)

set_option maxRecDepth 100000 in
theorem uint_any (w : World) (p : Nat) (v : Value) (l : List Nat) (h : Wt w p v l) (hb : l.length + 10 ≤ 1099511627776) (n : Nat) (hn : n < 2 ^ 64) :
    Calls Tryz.prog 93 #[.pointer (some ⟨p, 0, none⟩), .int .u64 (n : Int)] w fun e w' => e = .returned (.tuple #[]) ∧ ∃ v', Wt w' p v' (l ++ enc n) ∧ Sp (fun k => k = p) v w v' w' := by
  go_enter Tryz.func93, Tryz.ntmps93
  refine wp_label_one 0 (UintAt w p v (l ++ enc n)) (fun a' _ => (intOf (a'.tmps.getD 1 undef)).toNat) rfl ?_ ?_
  · intro K h0 hr hn'
    go_wp2_with fail
    go_step3
    rename_i hk
    exact hk _ _ (h0 _ _ ⟨9, n, v, l, _, _, _, _, _, _, _, _, _, _, _, _, _, _, _, _, rfl, rfl, h, Sp.refl _ _ _, rfl, hn⟩)
  · rintro a' w' ⟨f, m, v', l', v1, u2, u3, u4, u5, u6, u7, u8, u9, u10, u11, u12, u13, u14, u15, u16, rfl, rfl, hw, hs, hl, hm⟩ K hj hr hn'
    have HL : Hid (l' ++ en f m = l ++ enc n) := hl
    have HM : Hid (m < 2 ^ (7 * f + 1)) := hm
    have HB : Hid (l.length + 10 ≤ 1099511627776) := hb
    have HN : Hid (n < 2 ^ 64) := hn
    clear hl hm hb hn
    by_cases h128 : 128 ≤ m
    · have e8 := or8 m
      go_wp2_with fail
      have hlen : l'.length + (en f m).length = l.length + (enc n).length := by have := congrArg List.length HL.out; simpa using this
      have h10 := enc_length n
      have h1 := en_length f m
      have hB := HB.out
      refine (byte_any w' p v' l' hw (by omega) (m % 128 + 128)).mono ?_
      rintro e w2 ⟨rfl, v2, hw2, hs2⟩
      obtain ⟨f, rfl⟩ : ∃ g, f = g + 1 := by
        cases f with
        | zero => exact absurd HM.out (by omega)
        | succ g => exact ⟨g, rfl⟩
      clear hlen h10 h1 hB
      go_wp2_with fail
      go_step3
      refine hj _ _ ⟨f, m / 128, v2, _, _, _, _, _, _, _, _, _, _, _, _, _, _, _, _, _, rfl, by simp, hw2, hs.trans hs2, ?_, ?_⟩ ?_
      · rw [← HL.out, en_step f m h128]; simp
      · have h2 := HM.out
        rw [show 7 * (f + 1) + 1 = 7 + (7 * f + 1) by omega, Nat.pow_add] at h2
        omega
      · simp [intOf]; omega
    · go_wp2_with fail
      have hlen : l'.length + (en f m).length = l.length + (enc n).length := by have := congrArg List.length HL.out; simpa using this
      have h10 := enc_length n
      have h1 := en_length f m
      have hB := HB.out
      refine (byte_any w' p v' l' hw (by omega) m).mono ?_
      rintro e w2 ⟨rfl, v2, hw2, hs2⟩
      clear hlen h10 h1 hB
      go_wp2_with fail
      go_end0
      refine ⟨rfl, v2, ?_, hs.trans hs2⟩
      rw [← HL.out, en_small f m (by omega)]
      exact hw2
end Go.Proofs.YthncdbobjeeeaaaGreatDoor

/- Slices that are read, copies of them, new writers and readers, and a writer's Int, Text and Bytes. -/
namespace Go.Proofs.YthncdbobjeeeaaaGreatDoor
open Go.ChangeShapes Go.WideShapes Go.ChangeAt Go.RowKit

/-- v is a slice whose bytes are l. -/
def Sl (w : World) (v : Value) (l : List Nat) : Prop :=
  (∃ b off cap, v = .slice (some ⟨b, off, none⟩) l.length cap ∧ l.length ≤ cap ∧ cap ≤ maxLen ∧ ∀ (i c : Nat), l[i]? = some c → w.cell? ⟨b, off + i, none⟩ = some (.int .u8 (c : Int))) ∨
  (l = [] ∧ ∃ ad cap, v = .slice ad 0 cap ∧ cap ≤ maxLen ∧ (ad = none → cap = 0))

theorem Own.sl {w : World} {v : Value} {l : List Nat} (h : Own w v l) : Sl w v l := by
  rcases h.2 with ⟨rfl, h0⟩ | ⟨g, cap, cur, rfl, hb, hgg, hn, hm, hs, ht⟩
  · exact .inr ⟨List.eq_nil_of_length_eq_zero h0, none, 0, rfl, Nat.zero_le _, fun _ => rfl⟩
  · refine .inl ⟨g, 0, cap, rfl, hn, hm, fun i c hi => ?_⟩
    have := World.ownsRow.cells h (g := g) rfl i (.int .u8 (c : Int)) (by unfold cl; rw [List.getElem?_map, hi]; rfl)
    rw [Addr.add_lit] at this
    exact this

theorem Sl.src {w : World} {v : Value} {l : List Nat} (h : Sl w v l) : Src Tryz.prog 1 22 v l.length (cl l) w := by
  rcases h with ⟨b, off, cap, rfl, _, _, hc⟩ | ⟨rfl, ad, cap, rfl, _, h0⟩
  · refine Src.ofSlice _ Tryz.underlying22 _ _ _ _ (by rw [cl_length]; omega) (fun j u hj => ?_) (cl_one _)
    obtain ⟨c, h1, rfl⟩ := cl_get l j u hj
    rw [Addr.add_lit]
    exact hc j c h1
  · cases ad with
    | none => exact Src.ofNil _ Tryz.underlying22 _
    | some a => exact Src.ofSlice _ Tryz.underlying22 _ _ _ _ rfl (fun j u hj => by simp [cl] at hj) (cl_one _)

theorem Sl.kept {S : Nat → Prop} {w w' : World} {v : Value} {l : List Nat} (h : Sl w v l) (hf : Fr S w w') (hS : ∀ k c, w.cell? k = some (.int .u8 c) → ¬ S k.block) : Sl w' v l := by
  rcases h with ⟨b, off, cap, rfl, h1, h2, hc⟩ | ⟨rfl, ad, cap, rfl, h1, h0⟩
  · exact .inl ⟨b, off, cap, rfl, h1, h2, fun i c hi => hf.cell (hc i c hi) (hS _ _ (hc i c hi))⟩
  · exact .inr ⟨rfl, ad, cap, rfl, h1, h0⟩

theorem Sl.shape {w : World} {v : Value} {l : List Nat} (h : Sl w v l) : ∃ o cap, v = .slice o l.length cap ∧ (o = none → l = [] ∧ cap = 0) := by
  rcases h with ⟨b, off, cap, rfl, h1, h2, hc⟩ | ⟨rfl, ad, cap, rfl, h1, h0⟩
  · exact ⟨_, _, rfl, fun h => by simp at h⟩
  · exact ⟨_, _, rfl, fun h => ⟨rfl, h0 h⟩⟩

theorem Own.form {w : World} {v : Value} {l : List Nat} (h : Own w v l) : ∃ o n cap, v = .slice o n cap := by
  obtain ⟨o, cap, e⟩ := h.shape
  exact ⟨o, _, cap, e⟩

/-- No slice. -/
def nv : Value := .slice none 0 0

theorem run_nil_eq (w : World) (n c : Nat) : (binOp .eql 22 (.slice none n c) (.slice none 0 0)).run Tryz.prog w = .ok (.bool true) w := by kernel_rfl
theorem run_some_eq (w : World) (a : Addr) (n c : Nat) : (binOp .eql 22 (.slice (some a) n c) (.slice none 0 0)).run Tryz.prog w = .ok (.bool false) w := by kernel_rfl

theorem own_empty (w : World) : Own (w.alloc (.cells #[] 5)) (.slice (some ⟨w.heap.size, 0, none⟩) 0 0) [] :=
  World.ownsRow_made w #[] 0 (Nat.zero_le _) (Nat.zero_le _) rfl

set_option maxRecDepth 100000 in
theorem clone_any (w : World) (v : Value) (l : List Nat) (h : Sl w v l) (hb : l.length ≤ 1099511627776) :
    Calls Tryz.prog 102 #[v] w fun e w' => ∃ v', e = .returned v' ∧ Own w' v' l ∧ Sp no nv w v' w' := by
  have hn := run_nil_eq
  have hs := run_some_eq
  obtain ⟨o, cap, rfl, h0⟩ := h.shape
  cases o with
  | none =>
    obtain ⟨rfl, rfl⟩ := h0 rfl
    go_enter Tryz.func102, Tryz.ntmps102
    go_wp2_with fail
    go_ret
    exact ⟨_, rfl, Own.nil _, Sp.refl _ _ _⟩
  | some a =>
    clear h0
    have h1 := own_empty w
    have hf : Fr no w (w.alloc (.cells #[] 5)) := (Fr.refl no w).alloc _ _
    have h2 := (h.kept hf (fun _ _ _ f => f)).src
    have hb' : ([] : List Nat).length + l.length ≤ 1099511627776 := by simpa using hb
    go_enter Tryz.func102, Tryz.ntmps102
    go_wp2_with (at_builtin; refine wpList_apd _ rfl rfl (.tmp 5) (.tmp 6) 22 rfl (.slice (some ⟨w.heap.size, 0, none⟩) 0 0) [] rfl h1 _ rfl l h2 hb' ?_; intro v' w' hown hsp)
    go_ret
    refine ⟨_, rfl, hown, ?_, ?_⟩
    · exact hf.trans hsp.1 (fun _ _ f => .inl f) (fun i hi s => s.elim .inl (fun e => by simp [Value.ownBlock] at e; omega))
    · intro k hk e
      have := hsp.2 k (Nat.lt_of_lt_of_le hk hf.size) e
      simp [Value.ownBlock] at this
      omega

theorem new_any (w : World) : Calls Tryz.prog 40 #[] w fun e w' => e = .returned (.pointer (some ⟨w.heap.size, 0, none⟩)) ∧ Wt w' w.heap.size nv [] ∧ Fr no w w' := by
  go_enter Tryz.func40, Tryz.ntmps40
  go_wp2_with fail
  go_ret
  exact ⟨rfl, ⟨heap_alloc_new w _, Own.nil _⟩, (Fr.refl no w).alloc _ _⟩

theorem Sp.fresh {q : Nat → Prop} {w w' : World} {v' : Value} (h : Sp q nv w v' w') : Fr q w w' ∧ ∀ k, k < w.heap.size → v'.ownBlock ≠ some k :=
  ⟨h.1.mono (fun i _ s => s.elim id (fun e => by simp [nv, Value.ownBlock] at e)), fun k hk e => by have := h.2 k hk e; simp [nv, Value.ownBlock] at this⟩

theorem bytes_any (w : World) (p : Nat) (v : Value) (l : List Nat) (h : Wt w p v l) (hb : l.length ≤ 1099511627776) :
    Calls Tryz.prog 49 #[.pointer (some ⟨p, 0, none⟩)] w fun e w' => ∃ v', e = .returned v' ∧ Own w' v' l ∧ Sp no nv w v' w' := by
  have hc : w.cell? ⟨p, 0, none⟩ = some v := cell_of_one h.1
  have hsl := h.2.sl
  obtain ⟨o, cap, rfl⟩ := h.2.shape
  go_enter Tryz.func49, Tryz.ntmps49
  go_wp2_with fail
  refine (clone_any w _ l hsl hb).mono ?_
  rintro e w' ⟨v', rfl, hown, hsp⟩
  go_wp2_with fail
  go_ret
  exact ⟨_, rfl, hown, hsp⟩

/-- A reader at block p whose bytes left are l. -/
def Rd (t : TypeId) (w : World) (p : Nat) (l : List Nat) : Prop := ∃ v, w.heap[p]? = some (.cells #[v] t (0, 0)) ∧ Sl w v l

theorem Rd.kept {t : TypeId} {S : Nat → Prop} {w w' : World} {p : Nat} {l : List Nat} (h : Rd t w p l) (hf : Fr S w w') (hp : ¬ S p) (hS : ∀ k c, w.cell? k = some (.int .u8 c) → ¬ S k.block) : Rd t w' p l := by
  obtain ⟨v, h1, h2⟩ := h
  exact ⟨v, hf.heap h1 hp, h2.kept hf hS⟩

set_option maxRecDepth 100000 in
theorem open_any (w : World) (v : Value) (l : List Nat) (h : Sl w v l) (hb : l.length ≤ 1099511627776) :
    Calls Tryz.prog 60 #[v] w fun e w' => ∃ p, e = .returned (.pointer (some ⟨p, 0, none⟩)) ∧ w.heap.size ≤ p ∧ Rd 176 w' p l ∧ Fr no w w' := by
  go_enter Tryz.func60, Tryz.ntmps60
  go_wp2_with fail
  refine (clone_any w _ l h hb).mono ?_
  rintro e w' ⟨v', rfl, hown, hsp⟩
  obtain ⟨o, cap, rfl⟩ := hown.shape
  go_wp2_with fail
  go_ret
  have hf : Fr no w' (w'.alloc (.cells #[.slice o l.length cap] 176)) := (Fr.refl no w').alloc _ _
  exact ⟨_, rfl, hsp.1.size, ⟨_, heap_alloc_new w' _, (hown.kept hf (fun _ _ f => f)).sl⟩, hsp.fresh.1.trans hf (fun _ _ f => f) (fun _ _ f => f)⟩

theorem folded_any (w : World) (n : Int) (h1 : -9223372036854775808 ≤ n) (h2 : n ≤ 9223372036854775807) : Calls Tryz.prog 143 #[.int .i64 n] w fun e w' => e = .returned (.int .u64 (fo n : Int)) ∧ w' = w := by
  by_cases h : n < 0
  · obtain ⟨m, e1⟩ : ∃ m : Nat, - n - 1 = (m : Int) := ⟨(- n - 1).toNat, by omega⟩
    have hx := xor_neg n h1 h2
    rw [e1] at hx
    have ho := or_one m (by omega)
    have hw : IntKind.u64.wrap (m : Int) = m := by simp [IntKind.wrap, IntKind.signed, IntKind.bits]; omega
    have hw2 : IntKind.u64.wrap ((m : Int) * 2) = (m : Int) * 2 := by simp [IntKind.wrap, IntKind.signed, IntKind.bits]; omega
    have E : Hid ((fo n : Int) = ((m * 2 + 1 : Nat) : Int)) := by show _ = _; unfold fo; rw [if_pos h]; omega
    clear e1
    go_enter Tryz.func143, Tryz.ntmps143
    go_wp2_with fail
    go_ret
    exact ⟨by rw [E.out]; rfl, rfl⟩
  · have E : Hid ((fo n : Int) = n * 2) := by show _ = _; unfold fo; rw [if_neg h]; omega
    go_enter Tryz.func143, Tryz.ntmps143
    go_wp2_with fail
    go_ret
    exact ⟨by rw [E.out]; rfl, rfl⟩

theorem int_any (w : World) (p : Nat) (v : Value) (l : List Nat) (h : Wt w p v l) (hb : l.length + 10 ≤ 1099511627776) (n : Int) (h1 : -9223372036854775808 ≤ n) (h2 : n ≤ 9223372036854775807) :
    Calls Tryz.prog 95 #[.pointer (some ⟨p, 0, none⟩), .int .i64 n] w fun e w' => e = .returned (.tuple #[]) ∧ ∃ v', Wt w' p v' (l ++ enc (fo n)) ∧ Sp (fun k => k = p) v w v' w' := by
  go_enter Tryz.func95, Tryz.ntmps95
  go_wp2_with fail
  refine (folded_any w n h1 h2).mono ?_
  rintro e w' ⟨rfl, rfl⟩
  go_wp2_with fail
  refine (uint_any w' p v l h hb _ (fo_lt n h1 h2)).mono ?_
  rintro e w' ⟨rfl, v', hw, hs⟩
  go_wp2_with fail
  go_end0
  exact ⟨rfl, v', hw, hs⟩

theorem byteCells_nl (s : ByteArray) : byteCells s = cl (nl s) := by unfold byteCells cl nl; simp [Function.comp_def]

theorem src_string (w : World) (s : ByteArray) : Src Tryz.prog 1 9 (.string s) (nl s).length (cl (nl s)) w := by
  rw [nl_length, ← byteCells_nl]
  exact Src.ofString w Tryz.underlying9 s

set_option maxRecDepth 100000 in
theorem text_any (w : World) (p : Nat) (v : Value) (l : List Nat) (h : Wt w p v l) (s : ByteArray) (hb : l.length + 10 + s.size ≤ 1099511627776) :
    Calls Tryz.prog 42 #[.pointer (some ⟨p, 0, none⟩), .string s] w fun e w' => e = .returned (.tuple #[]) ∧ ∃ v', Wt w' p v' (l ++ (enc s.size ++ nl s)) ∧ Sp (fun k => k = p) v w v' w' := by
  go_enter Tryz.func42, Tryz.ntmps42
  go_wp2_with fail
  refine (uint_any w p v l h (by omega) s.size (by omega)).mono ?_
  rintro e w1 ⟨rfl, v1, hw, hs⟩
  have hc := cell_of_one hw.1
  have hS := src_string w1 s
  have hb' : (l ++ enc s.size).length + (nl s).length ≤ 1099511627776 := by have := enc_length s.size; rw [nl_length]; simp; omega
  obtain ⟨o, n1, cap, e1⟩ := hw.2.form
  subst e1
  go_wp2_with (at_builtin; refine wpList_apd _ rfl rfl (.tmp 13) (.tmp 14) 9 rfl (.slice o n1 cap) (l ++ enc s.size) rfl hw.2 (.string s) rfl (nl s) hS hb' ?_; intro v' w' hown hsp; have hp' := hsp.1.heap hw.1 (fun e => e.elim id (fun e => hw.apart e)); have hcw := cell_of_one hp'; have hfw := free_of_one hp'; clear hp'; obtain ⟨o', n2, cap', e2⟩ := hown.form; subst e2)
  go_end0
  obtain ⟨r1, r2⟩ := hw.next hsp hown
  rw [List.append_assoc] at r1
  exact ⟨rfl, _, r1, hs.trans r2⟩
end Go.Proofs.YthncdbobjeeeaaaGreatDoor

