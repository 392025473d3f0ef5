/- Memory and goto, for the layer's proofs. -/
import Derived.Test.YtpfkigoffllieaaGreatDoorRows
import Derived.WalkKit
import Derived.ProofKit
import Derived.WalkMore
import Derived.Deep.AppendSrc
import Derived.ScopeJumps
import Derived.Laws.BytesArg
import Derived.WalkLawsBesides
import Derived.BigRegion
import Derived.BigQuiet
import Derived.Deep.QuietTactic
import Derived.Deep.RegionWith
import Derived.Deep.RegionHeld3
import Derived.Maps.OwnSet
import Derived.Laws.Strings
import Derived.Laws.BitsAllLaws
namespace Go.Proofs.YtpfkigoffllieaaGreatDoor
open Go.ChangeShapes Go.WideShapes Go.ChangeAt Go.RowKit

/-- From w to w' the blocks in S alone may have turned; there may be new ones; no mark of a frozen cell that was there has turned. -/
structure Fr (S : Nat → Prop) (w w' : World) : Prop where
  os : w'.os = w.os
  output : w'.output = w.output
  size : w.heap.size ≤ w'.heap.size
  block : ∀ k, k < w.heap.size → ¬ S k → w'.heap[k]? = w.heap[k]?
  frozen : ∀ a, a.block < w.heap.size → w'.frozen? a = w.frozen? a

theorem Fr.refl (S : Nat → Prop) (w : World) : Fr S w w := ⟨rfl, rfl, Nat.le_refl _, fun _ _ _ => rfl, fun _ _ => rfl⟩

theorem Fr.trans {S T U : Nat → Prop} {a b c : World} (h : Fr S a b) (k : Fr T b c) (hS : ∀ i, i < a.heap.size → S i → U i) (hT : ∀ i, i < a.heap.size → T i → U i) : Fr U a c :=
  ⟨k.os.trans h.os, k.output.trans h.output, Nat.le_trans h.size k.size,
    fun i hi hu => (k.block i (Nat.lt_of_lt_of_le hi h.size) (fun t => hu (hT i hi t))).trans (h.block i hi (fun t => hu (hS i hi t))),
    fun x hx => (k.frozen x (Nat.lt_of_lt_of_le hx h.size)).trans (h.frozen x hx)⟩

theorem Fr.mono {S U : Nat → Prop} {a b : World} (h : Fr S a b) (hS : ∀ i, i < a.heap.size → S i → U i) : Fr U a b :=
  h.trans (Fr.refl S b) hS hS

theorem Fr.alloc {S : Nat → Prop} {a w : World} (h : Fr S a w) (c : Array Value) (t : TypeId) : Fr S a (w.alloc (.cells c t)) :=
  ⟨h.os, h.output, Nat.le_trans h.size (by show w.heap.size ≤ (w.heap.push _).size; simp), fun k hk hs => (Below.heap_alloc w _ k (Nat.lt_of_lt_of_le hk h.size)).trans (h.block k hk hs),
    fun x hx => (frozen?_alloc_cells _ _ _ x).trans (h.frozen x hx)⟩

theorem Fr.drew {S : Nat → Prop} {a w : World} (h : Fr S a w) : Fr S a w.drew := ⟨h.os, h.output, h.size, h.block, h.frozen⟩

theorem frozen_setCell (w : World) (p : Addr) (u : Value) (a : Addr) : (w.setCell p u).frozen? a = w.frozen? a := by
  unfold World.frozen? World.setCell
  simp only [Array.getElem?_modify]
  by_cases hx : p.block = a.block
  · rw [if_pos hx]
    cases e : w.heap[a.block]? with
    | none => simp
    | some o => cases o <;> simp
  · rw [if_neg hx]

theorem frozen_setRow (w : World) (g : Nat) (cs : Array Value) (x : Addr) : (w.setRow g cs).frozen? x = w.frozen? x := by
  unfold World.frozen? World.setRow
  simp only [Array.getElem?_modify]
  by_cases hx : g = x.block
  · rw [if_pos hx]
    cases e : w.heap[x.block]? with
    | none => simp
    | some o => cases o <;> simp
  · rw [if_neg hx]

theorem Fr.setCell {S : Nat → Prop} {a w : World} (h : Fr S a w) {p : Addr} (hp : p.block < a.heap.size → S p.block) (u : Value) : Fr S a (w.setCell p u) :=
  ⟨h.os, h.output, by simpa [World.setCell] using h.size, fun k hk hs => (Below.heap_setCell w p u k (fun e => hs (e ▸ hp (e ▸ hk)))).trans (h.block k hk hs),
    fun x hx => (frozen_setCell w p u x).trans (h.frozen x hx)⟩

theorem Fr.cell {S : Nat → Prop} {w w' : World} (h : Fr S w w') {p : Addr} {u : Value} (hc : w.cell? p = some u) (hp : ¬ S p.block) : w'.cell? p = some u :=
  (World.cell?_of_block (h.block p.block (World.block_lt_of_cell? w p hc) hp)).trans hc

theorem lt_of_heap {w : World} {k : Nat} {o : Obj} (h : w.heap[k]? = some o) : k < w.heap.size := (Array.getElem?_eq_some_iff.1 h).1

theorem Fr.heap {S : Nat → Prop} {w w' : World} (h : Fr S w w') {k : Nat} {o : Obj} (hc : w.heap[k]? = some o) (hp : ¬ S k) : w'.heap[k]? = some o :=
  (h.block k (lt_of_heap hc) hp).trans hc

/-- A step that may turn the blocks in q and the row of v, and leaves v' in v's place: v' lies in v's row or in new memory. -/
def Sp (q : Nat → Prop) (v : Value) (w : World) (v' : Value) (w' : World) : Prop :=
  Fr (fun k => q k ∨ v.ownBlock = some k) w w' ∧ ∀ k, k < w.heap.size → v'.ownBlock = some k → v.ownBlock = some k

theorem Sp.refl (q : Nat → Prop) (v : Value) (w : World) : Sp q v w v w := ⟨Fr.refl _ _, fun _ _ h => h⟩

theorem Sp.trans {q : Nat → Prop} {v v1 v2 : Value} {w w1 w2 : World} (h : Sp q v w v1 w1) (k : Sp q v1 w1 v2 w2) : Sp q v w v2 w2 :=
  ⟨h.1.trans k.1 (fun _ _ s => s) (fun i hi s => s.elim .inl (fun e => .inr (h.2 i hi e))),
    fun i hi e => h.2 i hi (k.2 i (Nat.lt_of_lt_of_le hi h.1.size) e)⟩

theorem Sp.mono {q q' : Nat → Prop} {v v' : Value} {w w' : World} (h : Sp q v w v' w') (hq : ∀ i, i < w.heap.size → q i → q' i) : Sp q' v w v' w' :=
  ⟨h.1.mono (fun i hi s => s.elim (fun a => .inl (hq i hi a)) .inr), h.2⟩

/-- New memory alone ahead of a step. -/
theorem Sp.after {q S : Nat → Prop} {v v' : Value} {w0 w w' : World} (hf : Fr S w0 w) (h : Sp q v w v' w') (hS : ∀ i, i < w0.heap.size → S i → q i) : Sp q v w0 v' w' :=
  ⟨hf.trans h.1 (fun i hi s => .inl (hS i hi s)) (fun _ _ s => s), fun k hk e => h.2 k (Nat.lt_of_lt_of_le hk hf.size) e⟩

theorem Sp.then {q S : Nat → Prop} {v v' : Value} {w w' w2 : World} (h : Sp q v w v' w') (hf : Fr S w' w2) (hS : ∀ i, i < w.heap.size → S i → q i) : Sp q v w v' w2 :=
  ⟨h.1.trans hf (fun _ _ s => s) (fun i hi s => .inl (hS i hi s)), h.2⟩

def no : Nat → Prop := fun _ => False

def nl (s : ByteArray) : List Nat := s.data.toList.map UInt8.toNat

theorem nl_length (s : ByteArray) : (nl s).length = s.size := by simp [nl]

theorem nl_get (s : ByteArray) (k : Nat) (h : k < s.size) : (nl s)[k]? = some s[k].toNat := by
  unfold nl
  have h' : k < s.data.toList.length := by simpa using h
  rw [List.getElem?_map, List.getElem?_eq_getElem h']
  rfl

variable {P : Program} {a : Act} {w : World} {Q : Exit → Act → World → Prop}

/-- As Q; by a goto to a label l: J l. -/
def jumps (J : Nat → Act → World → Prop) (Q : Exit → Act → World → Prop) : Exit → Act → World → Prop
  | .goto l, a, w => J l a w
  | e, a, w => Q e a w

theorem wp_labels {c : Code} (J : Nat → Act → World → Prop) (μ : Nat → Act → World → Nat)
    (first : c.wp P (jumps J Q) a w)
    (pass : ∀ l a w, J l a w → ∃ R, findLabel c l = some (.seq .skip R) ∧ R.wp P (jumps (fun l' a' w' => J l' a' w' ∧ μ l' a' w' < μ l a w) Q) a w) : (Code.scope c).wp P Q a w := by
  intro b k cs
  have key : ∀ n l a w, μ l a w = n → J l a w → ∃ e a' w', Q e a' w' ∧ ∃ k0, gotoIn l (.inScope c :: k) = some k0 ∧ Arrives P (lone (b.at a k0) cs w) b k cs e a' w' := by
    intro n
    induction n using Nat.strongRecOn with
    | _ n ih =>
      intro l a w hn hJ
      obtain ⟨R, hf, hR⟩ := pass l a w hJ
      have hg : gotoIn l (.inScope c :: k) = some (.code (.seq .skip R) :: .inScope c :: k) := by simp [gotoIn, hf]
      obtain ⟨e, a₁, w₁, hq, harr⟩ := hR b (.inScope c :: k) cs
      have hs : Steps P (lone (b.at a (.code (.seq .skip R) :: .inScope c :: k)) cs w) (lone (b.at a (.code R :: .inScope c :: k)) cs w) :=
        .head step_seq (.one step_skip)
      have harr' := Arrives.of_steps hs harr
      cases e with
      | normal => exact ⟨.normal, a₁, w₁, hq, _, hg, Steps.trans harr' (.one step_inScope)⟩
      | exit id => exact ⟨.exit id, a₁, w₁, hq, _, hg, fun k' hk => harr' k' (by simp [exitTo, hk])⟩
      | goto l' =>
        obtain ⟨hJ', hlt⟩ := hq
        obtain ⟨e₂, a₂, w₂, hq₂, k2, hg2, harr₂⟩ := ih _ (by omega) l' a₁ w₁ rfl hJ'
        exact ⟨e₂, a₂, w₂, hq₂, _, hg, .of_steps (harr' _ hg2) harr₂⟩
      | ret => exact ⟨_, a₁, w₁, hq, _, hg, harr'⟩
      | panic ch => exact ⟨_, a₁, w₁, hq, _, hg, harr'⟩
      | outgrown => exact ⟨_, a₁, w₁, hq, _, hg, harr'⟩
  obtain ⟨e, a₁, w₁, hq, harr⟩ := first b (.inScope c :: k) cs
  cases e with
  | normal => exact ⟨.normal, a₁, w₁, hq, .head step_scope (Steps.trans harr (.one step_inScope))⟩
  | exit id => exact ⟨.exit id, a₁, w₁, hq, fun k' hk => .head step_scope (harr k' (by simp [exitTo, hk]))⟩
  | goto l' =>
    obtain ⟨e₂, a₂, w₂, hq₂, k2, hg2, harr₂⟩ := key _ l' a₁ w₁ rfl hq
    exact ⟨e₂, a₂, w₂, hq₂, .of_steps (.head step_scope (harr _ hg2)) harr₂⟩
  | ret => exact ⟨_, a₁, w₁, hq, .of_steps (.one step_scope) harr⟩
  | panic ch => exact ⟨_, a₁, w₁, hq, .of_steps (.one step_scope) harr⟩
  | outgrown => exact ⟨_, a₁, w₁, hq, .of_steps (.one step_scope) harr⟩

/-- One label. 'K': what is wanted behind, a letter: the walks carry nothing of it. -/
theorem wp_label_one {c R0 : Code} (l0 : Nat) (J0 : Act → World → Prop) (μ : Act → World → Nat) (hf0 : findLabel c l0 = some (.seq .skip R0))
    (first : ∀ K : Exit → Act → World → Prop, (∀ a w, J0 a w → R0.wp P K a w) → (∀ a w, Q .ret a w → K .ret a w) → (∀ a w, Q .normal a w → K .normal a w) → c.wp P K a w)
    (pass0 : ∀ a w, J0 a w → ∀ K : Exit → Act → World → Prop, (∀ a' w', J0 a' w' → μ a' w' < μ a w → K (.goto l0) a' w') → (∀ a w, Q .ret a w → K .ret a w) → (∀ a w, Q .normal a w → K .normal a w) → R0.wp P K a w) :
    (Code.scope c).wp P Q a w := by
  refine wp_labels (fun l a w => l = l0 ∧ J0 a w) (fun _ => μ) ?_ ?_
  · exact first _ (fun a w h => pass0 a w h _ (fun _ _ h' _ => ⟨rfl, h'⟩) (fun _ _ h' => h') (fun _ _ h' => h')) (fun _ _ h => h) (fun _ _ h => h)
  · rintro l a w ⟨rfl, h⟩
    exact ⟨R0, hf0, pass0 a w h _ (fun _ _ h' hl => ⟨⟨rfl, h'⟩, hl⟩) (fun _ _ h' => h') (fun _ _ h' => h')⟩

theorem Fr.new {S : Nat → Prop} {w w1 w2 : World} (h : Fr no w w1) (k : Fr S w1 w2) (hS : ∀ i, i < w.heap.size → ¬ S i) : Fr no w w2 :=
  h.trans k (fun _ _ f => f) (fun i hi s => hS i hi s)

theorem run_bits (a : Nat) (w : World) : (callFunc 133 #[.float .f64 a]).run Tryz.prog w = .ok (.value (.int .u64 (a : Int))) w := by
  rw [run_callFunc_extern (e := Extern.MathFloatBits.float64bits) Tryz.func133 (by kernel_rfl) (by kernel_rfl) (by kernel_rfl) (by kernel_rfl)]
  rfl

theorem take_next {α : Type} (l : List α) (k : Nat) (x : α) (h : l[k]? = some x) : l.take (k + 1) = l.take k ++ [x] := by
  rw [List.take_add_one, h]
  rfl

theorem size_alloc (w : World) (o : Obj) : (w.alloc o).heap.size = w.heap.size + 1 := by
  show (w.heap.push o).size = _
  exact Array.size_push _

/-- The cells of these instructions. -/
def ci : List (Int × Int) → List Value
  | [] => []
  | x :: l => .int .i64 x.1 :: .int .i64 x.2 :: ci l

/-- v is a slice whose instructions are l. -/
def SlI (w : World) (v : Value) (l : List (Int × Int)) : Prop :=
  ∃ ad cap, v = .slice ad l.length cap ∧ l.length ≤ cap ∧ cap ≤ maxLen ∧ ∀ (i : Nat) (x : Int × Int), l[i]? = some x → ∃ b off, ad = some ⟨b, off, none⟩ ∧
    w.cell? ⟨b, off + i * 2, none⟩ = some (.int .i64 x.1) ∧ w.cell? ⟨b, off + i * 2 + 1, none⟩ = some (.int .i64 x.2)

theorem SlI.kept {w w' : World} {v : Value} {l : List (Int × Int)} (h : SlI w v l) (hf : Fr no w w') : SlI w' v l := by
  obtain ⟨ad, cap, rfl, h1, h2, h3⟩ := h
  refine ⟨ad, cap, rfl, h1, h2, fun i x hx => ?_⟩
  obtain ⟨b, off, rfl, c0, c1⟩ := h3 i x hx
  exact ⟨b, off, rfl, hf.cell c0 (fun f => f), hf.cell c1 (fun f => f)⟩
end Go.Proofs.YtpfkigoffllieaaGreatDoor

/- What an instruction is, whether it stops. -/
namespace Go.Proofs.YtpfkigoffllieaaGreatDoor
open Go.ChangeShapes Go.WideShapes Go.ChangeAt Go.RowKit

def opds : List Int := [0, 2, 2, 0, 1, 1, 0, 0, 0, 0, 0, 0, 0, 0, 0, 0, 0, 0, 0, 0, 0, 0, 3, 3, 3, 2, 2, 2, 0, 0, 0, 0, 2, 0, 0, 0, 2, 2, 1, 1, 0, 0, 0, 2, 0, 0, 0, 0]

def trts : List Int := [0, 0, 0, 0, 0, 0, 0, 0, 0, 0, 0, 4, 4, 0, 0, 0, 0, 0, 0, 0, 0, 0, 3, 2, 2, 4, 4, 4, 4, 4, 4, 4, 4, 1, 1, 5, 4, 0, 4, 0, 4, 4, 4, 4, 4, 0, 0, 0]

def opd (n : Nat) : Int := opds.getD n 0

def trt (n : Nat) : Int := trts.getD n 0

/-- The tables of operands. -/
structure Tb (w : World) : Prop where
  op : ∀ n, n < 48 → w.cell? ⟨0, n, none⟩ = some (.int .i8 (opd n))

/-- The table of what an op does. -/
def Tr (w : World) : Prop := ∀ n, n < 48 → w.cell? ⟨1, n, none⟩ = some (.int .u8 (trt n))

theorem Tb.kept {w w' : World} (h : Tb w) (hf : Fr no w w') : Tb w' :=
  ⟨fun n hn => hf.cell (h.op n hn) (fun f => f)⟩

theorem Tr.kept {w w' : World} (h : Tr w) (hf : Fr no w w') : Tr w' := fun n hn => hf.cell (h n hn) (fun f => f)

theorem opd_bounds (n : Nat) (h : n < 48) : 0 ≤ opd n ∧ opd n ≤ 3 := by
  have key : ∀ d : Fin 48, 0 ≤ opd d.val ∧ opd d.val ≤ 3 := by decide +kernel
  exact key ⟨n, h⟩

/-- What the operand of an op is. -/
def od (op : Int) : Int := if 0 ≤ op ∧ op < 48 then opd op.toNat else -1

theorem od_in (n : Nat) (h : n < 48) : od (n : Int) = opd n := by unfold od; rw [if_pos (by omega)]; simp

theorem od_out (op : Int) (h : ¬ (0 ≤ op ∧ op < 48)) : od op = -1 := by unfold od; rw [if_neg h]

/-- Whether there is such an instruction. -/
def isb (op a : Int) : Bool := decide (od op = 0 ∧ a = 0 ∨ 0 < od op ∧ 0 ≤ a ∧ a ≤ 999)

theorem isop_any (w : World) (op : Int) : Calls Tryz.prog 134 #[.int .i64 op] w fun e w' => e = .returned (.bool (decide (0 ≤ op ∧ op < 48))) ∧ w' = w := by
  by_cases h1 : 0 ≤ op
  · by_cases h2 : op < 48
    · go_enter Tryz.func134, Tryz.ntmps134
      go_wp2_with fail
      go_ret
      exact ⟨by simp [h1, h2], rfl⟩
    · go_enter Tryz.func134, Tryz.ntmps134
      go_wp2_with fail
      go_ret
      exact ⟨by simp [h2], rfl⟩
  · go_enter Tryz.func134, Tryz.ntmps134
    go_wp2_with fail
    go_ret
    exact ⟨by simp; omega, rfl⟩

theorem operand_any (w : World) (h : Tb w) (op : Int) : Calls Tryz.prog 109 #[.int .i64 op] w fun e w' => e = .returned (.int .i64 (od op)) ∧ w' = w := by
  by_cases hr : 0 ≤ op ∧ op < 48
  · obtain ⟨n, rfl⟩ : ∃ n : Nat, op = (n : Int) := ⟨op.toNat, by omega⟩
    have hn : n < 48 := by omega
    have hc := h.op n hn
    have hb := opd_bounds n hn
    have I := isop_any w (n : Int)
    rw [decide_eq_true hr] at I
    rw [od_in n hn]
    generalize opd n = k at *
    clear h hr
    go_enter Tryz.func109, Tryz.ntmps109
    go_wp2_with fail
    refine I.mono ?_
    rintro e w' ⟨rfl, rfl⟩
    go_wp2_with fail
    go_ret
    exact ⟨rfl, rfl⟩
  · have I := isop_any w op
    rw [decide_eq_false hr] at I
    rw [od_out op hr]
    clear h hr
    go_enter Tryz.func109, Tryz.ntmps109
    go_wp2_with fail
    refine I.mono ?_
    rintro e w' ⟨rfl, rfl⟩
    go_wp2_with fail
    go_ret
    exact ⟨rfl, rfl⟩

/-- An instruction, as a value. -/
def ins (op a : Int) : Value := .agg #[.int .i64 op, .int .i64 a]

theorem isb_none (op a : Int) (h : od op = -1) : isb op a = false := by unfold isb; rw [h]; simp

theorem isb_zero (op a : Int) (h : od op = 0) : isb op a = decide (a = 0) := by unfold isb; rw [h]; simp

theorem isb_pos (op a : Int) (h : 0 < od op) : isb op a = decide (0 ≤ a ∧ a ≤ 999) := by
  unfold isb
  have : ¬ od op = 0 := by omega
  simp [this, h]

theorem od_cases (op : Int) : od op = -1 ∨ od op = 0 ∨ (0 < od op ∧ od op ≤ 3) := by
  by_cases h : 0 ≤ op ∧ op < 48
  · obtain ⟨n, rfl⟩ : ∃ n : Nat, op = (n : Int) := ⟨op.toNat, by omega⟩
    rw [od_in n (by omega)]
    have := opd_bounds n (by omega)
    omega
  · exact .inl (od_out op h)

theorem is_any (w : World) (h : Tb w) (op a : Int) : Calls Tryz.prog 108 #[ins op a] w fun e w' => e = .returned (.bool (isb op a)) ∧ Fr no w w' := by
  unfold ins
  have hf : Fr no w (w.alloc (.cells #[.int .i64 op, .int .i64 a] 26)) := (Fr.refl no w).alloc _ _
  have O := operand_any _ (h.kept hf) op
  have HF : Hid (Fr no w (w.alloc (.cells #[.int .i64 op, .int .i64 a] 26))) := hf
  clear h hf
  rcases od_cases op with e | e | ⟨e1, e2⟩
  · rw [isb_none op a e]
    rw [e] at O
    clear e
    go_enter Tryz.func108, Tryz.ntmps108
    go_wp2_with fail
    refine O.mono ?_
    rintro e w' ⟨rfl, rfl⟩
    go_wp2_with fail
    go_ret
    exact ⟨rfl, HF.out⟩
  · have HI : Hid (isb op a = decide (a = 0)) := isb_zero op a e
    rw [e] at O
    clear e
    go_enter Tryz.func108, Tryz.ntmps108
    go_wp2_with fail
    refine O.mono ?_
    rintro e w' ⟨rfl, rfl⟩
    go_wp2_with fail
    go_ret
    rw [HI.out]
    exact ⟨by first | rfl | (simp [BEq.beq]; done), HF.out⟩
  · have q1 : (od op == 0) = false := by simp; omega
    have q2 : (od op == -1) = false := by simp; omega
    have HI : Hid (isb op a = decide (0 ≤ a ∧ a ≤ 999)) := isb_pos op a e1
    generalize od op = k at *
    clear e1 e2
    by_cases h1 : 0 ≤ a
    · by_cases h2 : a ≤ 999
      · go_enter Tryz.func108, Tryz.ntmps108
        go_wp2_with fail
        refine O.mono ?_
        rintro e w' ⟨rfl, rfl⟩
        go_wp2_with fail
        go_ret
        rw [HI.out]
        exact ⟨by simp [h1, h2], HF.out⟩
      · go_enter Tryz.func108, Tryz.ntmps108
        go_wp2_with fail
        refine O.mono ?_
        rintro e w' ⟨rfl, rfl⟩
        go_wp2_with fail
        go_ret
        rw [HI.out]
        exact ⟨by simp; omega, HF.out⟩
    · go_enter Tryz.func108, Tryz.ntmps108
      go_wp2_with fail
      refine O.mono ?_
      rintro e w' ⟨rfl, rfl⟩
      go_wp2_with fail
      go_ret
      rw [HI.out]
      exact ⟨by simp; omega, HF.out⟩

/-- Whether an op does that. -/
def has (op t : Int) : Bool := decide (0 ≤ op ∧ op < 48) && !(bits .and .u8 (trt op.toNat) t == 0)

theorem has_out (op t : Int) (h : ¬ (0 ≤ op ∧ op < 48)) : has op t = false := by unfold has; rw [decide_eq_false h]; rfl

theorem has_in (n : Nat) (t : Int) (h : n < 48) : has (n : Int) t = !(bits .and .u8 (trt n) t == 0) := by
  unfold has
  rw [decide_eq_true (by omega)]
  simp

set_option maxRecDepth 100000 in
theorem does_any (w : World) (h : Tr w) (op t : Int) : Calls Tryz.prog 112 #[.int .i64 op, .int .u8 t] w fun e w' => e = .returned (.bool (has op t)) ∧ w' = w := by
  by_cases hr : 0 ≤ op ∧ op < 48
  · obtain ⟨n, rfl⟩ : ∃ n : Nat, op = (n : Int) := ⟨op.toNat, by omega⟩
    have hn : n < 48 := by omega
    have hc := h n hn
    have I := isop_any w (n : Int)
    rw [decide_eq_true hr] at I
    have HI : Hid (has (n : Int) t = !(bits .and .u8 (trt n) t == 0)) := has_in n t hn
    generalize trt n = k at *
    clear h hr
    go_enter Tryz.func112, Tryz.ntmps112
    go_wp2_with fail
    refine I.mono ?_
    rintro e w' ⟨rfl, rfl⟩
    go_wp2_with fail
    go_ret
    exact ⟨by rw [HI.out]; rfl, rfl⟩
  · have I := isop_any w op
    rw [decide_eq_false hr] at I
    rw [has_out op t hr]
    clear h hr
    go_enter Tryz.func112, Tryz.ntmps112
    go_wp2_with fail
    refine I.mono ?_
    rintro e w' ⟨rfl, rfl⟩
    go_wp2_with fail
    go_ret
    exact ⟨rfl, rfl⟩

theorem stops_any (w : World) (h : Tr w) (op : Int) : Calls Tryz.prog 78 #[.int .i64 op] w fun e w' => e = .returned (.bool (has op 1)) ∧ w' = w := by
  have D := does_any w h op 1
  go_enter Tryz.func78, Tryz.ntmps78
  go_wp2_with fail
  refine D.mono ?_
  rintro e w' ⟨rfl, rfl⟩
  go_wp2_with fail
  go_ret
  exact ⟨rfl, rfl⟩
end Go.Proofs.YtpfkigoffllieaaGreatDoor

/- What a name is. -/
namespace Go.Proofs.YtpfkigoffllieaaGreatDoor
open Go.ChangeShapes Go.WideShapes Go.ChangeAt Go.RowKit

def letter (c : Nat) : Bool := decide (97 ≤ c ∧ c ≤ 122 ∨ 65 ≤ c ∧ c ≤ 90 ∨ c = 95 ∨ c = 36)

def digit (c : Nat) : Bool := decide (48 ≤ c ∧ c ≤ 57)

/-- Whether these bytes are a name. -/
def nameL (l : List Nat) : Bool := decide (l ≠ []) && decide (l.length ≤ 20) && !digit (l.getD 0 0) && l.all fun c => letter c || digit c

def isName (s : ByteArray) : Bool := nameL (nl s)

theorem isDigit_any (w : World) (c : Nat) : Calls Tryz.prog 64 #[.int .u8 (c : Int)] w fun e w' => e = .returned (.bool (digit c)) ∧ w' = w := by
  by_cases h1 : 48 ≤ c
  · by_cases h2 : c ≤ 57
    · rw [show digit c = true by simp [digit]; omega]
      go_enter Tryz.func64, Tryz.ntmps64
      go_wp2_with fail
      go_ret
      exact ⟨by simp; omega, rfl⟩
    · rw [show digit c = false by simp [digit]; omega]
      go_enter Tryz.func64, Tryz.ntmps64
      go_wp2_with fail
      go_ret
      exact ⟨by simp; omega, rfl⟩
  · rw [show digit c = false by simp [digit]; omega]
    go_enter Tryz.func64, Tryz.ntmps64
    go_wp2_with fail
    go_ret
    exact ⟨rfl, rfl⟩

theorem isLetter_any (w : World) (c : Nat) : Calls Tryz.prog 65 #[.int .u8 (c : Int)] w fun e w' => e = .returned (.bool (letter c)) ∧ w' = w := by
  rcases (show (97 ≤ c ∧ c ≤ 122) ∨ (65 ≤ c ∧ c ≤ 90) ∨ c = 95 ∨ c = 36 ∨ (c < 65 ∧ c ≠ 36) ∨ (90 < c ∧ c < 97 ∧ c ≠ 95) ∨ 122 < c by omega) with ⟨h1, h2⟩ | ⟨h1, h2⟩ | h1 | h1 | ⟨h1, h2⟩ | ⟨h1, h2, h3⟩ | h1
  · rw [show letter c = true by simp [letter]; omega]
    go_enter Tryz.func65, Tryz.ntmps65
    go_wp2_with fail
    go_ret
    exact ⟨rfl, rfl⟩
  · rw [show letter c = true by simp [letter]; omega]
    have h3 : ¬ 97 ≤ c := by omega
    go_enter Tryz.func65, Tryz.ntmps65
    go_wp2_with fail
    go_ret
    exact ⟨rfl, rfl⟩
  · subst h1
    go_enter Tryz.func65, Tryz.ntmps65
    go_wp2_with fail
    go_ret
    exact ⟨rfl, rfl⟩
  · subst h1
    go_enter Tryz.func65, Tryz.ntmps65
    go_wp2_with fail
    go_ret
    exact ⟨rfl, rfl⟩
  · rw [show letter c = false by simp [letter]; omega]
    have h3 : ¬ 97 ≤ c := by omega
    have h4 : ¬ 65 ≤ c := by omega
    have h5 : ((c : Int) == 95) = false := by simp; omega
    have h6 : ((c : Int) == 36) = false := by simp; omega
    go_enter Tryz.func65, Tryz.ntmps65
    go_wp2_with fail
    go_ret
    exact ⟨rfl, rfl⟩
  · rw [show letter c = false by simp [letter]; omega]
    have h3 : ¬ 97 ≤ c := by omega
    have h4 : ¬ c ≤ 90 := by omega
    have h5 : ((c : Int) == 95) = false := by simp; omega
    have h6 : ((c : Int) == 36) = false := by simp; omega
    go_enter Tryz.func65, Tryz.ntmps65
    go_wp2_with fail
    go_ret
    exact ⟨by simp; omega, rfl⟩
  · rw [show letter c = false by simp [letter]; omega]
    have h3 : ¬ c ≤ 122 := by omega
    have h4 : ¬ c ≤ 90 := by omega
    have h5 : ((c : Int) == 95) = false := by simp; omega
    have h6 : ((c : Int) == 36) = false := by simp; omega
    go_enter Tryz.func65, Tryz.ntmps65
    go_wp2_with fail
    go_ret
    exact ⟨by simp; omega, rfl⟩

def NameAt (w0 : World) (s : ByteArray) (a : Act) (w : World) : Prop :=
  ∃ (k : Nat) (u1 u2 u3 u4 u5 u6 u7 u8 u9 u10 u11 u12 u13 u14 u15 u16 u17 u18 u19 u20 u21 u22 u23 u24 u25 u26 u27 u28 u29 u30 u31 u32 u33 : Value), a = { tmps := #[.string s, u1, u2, u3, u4, u5, u6, u7, u8, u9, u10, u11, u12, u13, u14, u15, u16, u17, u18, u19, u20, u21, u22, u23, u24, u25, u26, u27, u28, u29, u30, u31, u32, u33], defers := [] } ∧ u3 = .int .i64 (k : Int) ∧ w = w0 ∧ k ≤ s.size ∧ s.size ≠ 0 ∧ s.size ≤ 20 ∧ digit ((nl s).getD 0 0) = false ∧ ((nl s).take k).all (fun c => letter c || digit c) = true

theorem nameL_len (l : List Nat) (h : 20 < l.length) : nameL l = false := by
  unfold nameL
  rw [decide_eq_false (show ¬ l.length ≤ 20 by omega)]
  simp

theorem nameL_dig (l : List Nat) (h : digit (l.getD 0 0) = true) : nameL l = false := by
  unfold nameL
  rw [h]
  simp

theorem nameL_bad (l : List Nat) (k c : Nat) (hk : l[k]? = some c) (h : (letter c || digit c) = false) : nameL l = false := by
  unfold nameL
  have : (l.all fun c => letter c || digit c) = false := by
    rw [List.all_eq_false]
    exact ⟨c, List.mem_of_getElem? hk, by simpa using h⟩
  rw [this]
  simp

theorem nameL_ok (l : List Nat) (h0 : l ≠ []) (h1 : l.length ≤ 20) (h2 : digit (l.getD 0 0) = false) (h3 : (l.all fun c => letter c || digit c) = true) : nameL l = true := by
  unfold nameL
  rw [h2, h3, decide_eq_true h0, decide_eq_true h1]
  rfl

theorem toList_nil (s : ByteArray) : s.toList = [] ↔ s.size = 0 := by
  rw [ByteArray.toList_eq]
  show s.data.toList = [] ↔ s.data.size = 0
  rw [← Array.length_toList]
  exact List.length_eq_zero_iff.symm

set_option maxRecDepth 100000 in
theorem isName_any (w : World) (s : ByteArray) (hs : s.size ≤ 1099511627776) : Calls Tryz.prog 39 #[.string s] w fun e w' => e = .returned (.bool (isName s)) ∧ w' = w := by
  go_enter Tryz.func39, Tryz.ntmps39
  go_wp2_with fail
  refine wp_label_one 0 (NameAt w s) (fun a' _ => s.size - (intOf (a'.tmps.getD 3 undef)).toNat) rfl ?_ ?_
  · intro K h0 hr hn'
    by_cases he : s.toList = []
    · have HN : Hid (isName s = false) := by
        show _ = _
        have : nl s = [] := List.eq_nil_of_length_eq_zero (by rw [nl_length]; exact (toList_nil s).1 he)
        unfold isName
        rw [this]
        rfl
      go_wp2_with fail
      refine hr _ _ ?_
      go_ret
      rw [HN.out]
      exact ⟨rfl, rfl⟩
    · have hne : s.toList.isEmpty = false := by simpa using he
      have h0s : s.size ≠ 0 := fun h => he ((toList_nil s).2 h)
      by_cases hbig : 20 < s.size
      · have HN : Hid (isName s = false) := nameL_len _ (by rw [nl_length]; exact hbig)
        go_wp2_with fail
        refine hr _ _ ?_
        go_ret
        rw [HN.out]
        exact ⟨rfl, rfl⟩
      · have hc : (nl s)[0]? = some s[0].toNat := nl_get s 0 (by omega)
        have HD : Hid ((nl s).getD 0 0 = s[0].toNat) := by show _ = _; rw [List.getD_eq_getElem?_getD, hc]; rfl
        have D := isDigit_any w s[0].toNat
        have hb20 : decide (20 < (s.size : Int)) = false := by simp; omega
        clear hc
        by_cases hdig : digit s[0].toNat = true
        · have HN : Hid (isName s = false) := nameL_dig _ (by rw [HD.out]; exact hdig)
          rw [hdig] at D
          go_wp2_with fail
          refine D.mono ?_
          rintro e w1 ⟨rfl, rfl⟩
          go_wp2_with fail
          refine hr _ _ ?_
          go_ret
          rw [HN.out]
          exact ⟨rfl, rfl⟩
        · have hdig' : digit s[0].toNat = false := by simpa using hdig
          rw [hdig'] at D
          go_wp2_with fail
          refine D.mono ?_
          rintro e w1 ⟨rfl, rfl⟩
          go_wp2_with fail
          go_step3
          rename_i hk
          exact hk _ _ (h0 _ _ ⟨0, _, _, _, _, _, _, _, _, _, _, _, _, _, _, _, _, _, _, _, _, _, _, _, _, _, _, _, _, _, _, _, _, _, rfl, rfl, rfl, Nat.zero_le _, h0s, by omega, by rw [HD.out]; exact hdig', rfl⟩)
  · rintro a' w' ⟨k, u1, u2, u3, u4, u5, u6, u7, u8, u9, u10, u11, u12, u13, u14, u15, u16, u17, u18, u19, u20, u21, u22, u23, u24, u25, u26, u27, u28, u29, u30, u31, u32, u33, rfl, rfl, rfl, hk, h0s, h20, hd, hall⟩ K hj hr hn'
    have HA : Hid (((nl s).take k).all (fun c => letter c || digit c) = true) := hall
    have HD : Hid (digit ((nl s).getD 0 0) = false) := hd
    clear hall hd
    by_cases hend : k = s.size
    · subst hend
      have HN : Hid (isName s = true) := by
        refine nameL_ok _ (fun h => h0s ?_) (by rw [nl_length]; exact h20) HD.out ?_
        · rw [← nl_length, h]; rfl
        · have := HA.out
          rwa [← nl_length, List.take_length] at this
      go_wp2_with fail
      refine hr _ _ ?_
      go_ret
      rw [HN.out]
      exact ⟨rfl, rfl⟩
    · have hlt : k < s.size := by omega
      have hne : ((k : Int) == (s.size : Int)) = false := by simp; omega
      have hc : (nl s)[k]? = some s[k].toNat := nl_get s k hlt
      have HC : Hid ((nl s)[k]? = some s[k].toNat) := hc
      have L := isLetter_any w' s[k].toNat
      have D := isDigit_any w' s[k].toNat
      clear hc
      have STEP : Hid ((letter s[k].toNat || digit s[k].toNat) = true → ((nl s).take (k + 1)).all (fun c => letter c || digit c) = true) := by
        intro h
        rw [take_next _ k _ HC.out, List.all_append, HA.out]
        simpa using h
      have BAD : Hid ((letter s[k].toNat || digit s[k].toNat) = false → isName s = false) := fun h => nameL_bad _ k _ HC.out h
      generalize hcv : s[k].toNat = c at *
      by_cases hl : letter c = true
      · rw [hl] at L
        go_wp2_with fail
        refine L.mono ?_
        rintro e w1 ⟨rfl, rfl⟩
        go_wp2_with fail
        go_step3
        refine hj _ _ ⟨k + 1, _, _, _, _, _, _, _, _, _, _, _, _, _, _, _, _, _, _, _, _, _, _, _, _, _, _, _, _, _, _, _, _, _, rfl, by go_num, rfl, by omega, h0s, h20, HD.out, STEP.out (by rw [hl]; rfl)⟩ ?_
        simp [intOf]
        omega
      · have hl' : letter c = false := by simpa using hl
        rw [hl'] at L
        by_cases hdg : digit c = true
        · rw [hdg] at D
          go_wp2_with fail
          refine L.mono ?_
          rintro e w1 ⟨rfl, rfl⟩
          go_wp2_with fail
          refine D.mono ?_
          rintro e w1 ⟨rfl, rfl⟩
          go_wp2_with fail
          go_step3
          refine hj _ _ ⟨k + 1, _, _, _, _, _, _, _, _, _, _, _, _, _, _, _, _, _, _, _, _, _, _, _, _, _, _, _, _, _, _, _, _, _, rfl, by go_num, rfl, by omega, h0s, h20, HD.out, STEP.out (by rw [hl', hdg]; rfl)⟩ ?_
          simp [intOf]
          omega
        · have hdg' : digit c = false := by simpa using hdg
          rw [hdg'] at D
          have HN : Hid (isName s = false) := BAD.out (by rw [hl', hdg']; rfl)
          go_wp2_with fail
          refine L.mono ?_
          rintro e w1 ⟨rfl, rfl⟩
          go_wp2_with fail
          refine D.mono ?_
          rintro e w1 ⟨rfl, rfl⟩
          go_wp2_with fail
          refine hr _ _ ?_
          go_ret
          rw [HN.out]
          exact ⟨rfl, rfl⟩
end Go.Proofs.YtpfkigoffllieaaGreatDoor
