/- Memory and goto, for the layer's proofs. -/
import Derived.Test.YtalgjpmaafooeaaGreatDoorRows
import Derived.WalkKit
import Derived.ProofKit
import Derived.WalkMore
import Derived.Deep.AppendSrc
import Derived.ScopeJumps
import Derived.Laws.BytesArg
import Derived.WalkLawsBesides
import Derived.BigRegion
import Derived.BigQuiet
import Derived.Deep.QuietTactic
import Derived.Deep.RegionWith
import Derived.Deep.RegionHeld3
import Derived.Maps.OwnSet
import Derived.Laws.Strings
import Derived.Laws.BitsAllLaws
namespace Go.Proofs.YtalgjpmaafooeaaGreatDoor
open Go.ChangeShapes Go.WideShapes Go.ChangeAt Go.RowKit
structure Fr (S : Nat → Prop) (w w' : World) : Prop where
 os : w'.os = w.os
 output : w'.output = w.output
 size : w.heap.size ≤ w'.heap.size
 block : ∀ k, k < w.heap.size → ¬ S k → w'.heap[k]? = w.heap[k]?
 frozen : ∀ a, a.block < w.heap.size → w'.frozen? a = w.frozen? a
theorem Fr.refl (S : Nat → Prop) (w : World) : Fr S w w := ⟨rfl, rfl, Nat.le_refl _, fun _ _ _ => rfl, fun _ _ => rfl⟩
theorem Fr.trans {S T U : Nat → Prop} {a b c : World} (h : Fr S a b) (k : Fr T b c) (hS : ∀ i, i < a.heap.size → S i → U i) (hT : ∀ i, i < a.heap.size → T i → U i) : Fr U a c :=
 ⟨k.os.trans h.os, k.output.trans h.output, Nat.le_trans h.size k.size,
  fun i hi hu => (k.block i (Nat.lt_of_lt_of_le hi h.size) (fun t => hu (hT i hi t))).trans (h.block i hi (fun t => hu (hS i hi t))),
  fun x hx => (k.frozen x (Nat.lt_of_lt_of_le hx h.size)).trans (h.frozen x hx)⟩
theorem Fr.mono {S U : Nat → Prop} {a b : World} (h : Fr S a b) (hS : ∀ i, i < a.heap.size → S i → U i) : Fr U a b :=
 h.trans (Fr.refl S b) hS hS
theorem Fr.alloc {S : Nat → Prop} {a w : World} (h : Fr S a w) (c : Array Value) (t : TypeId) : Fr S a (w.alloc (.cells c t)) :=
 ⟨h.os, h.output, Nat.le_trans h.size (by show w.heap.size ≤ (w.heap.push _).size; simp), fun k hk hs => (Below.heap_alloc w _ k (Nat.lt_of_lt_of_le hk h.size)).trans (h.block k hk hs),
  fun x hx => (frozen?_alloc_cells _ _ _ x).trans (h.frozen x hx)⟩
theorem Fr.drew {S : Nat → Prop} {a w : World} (h : Fr S a w) : Fr S a w.drew := ⟨h.os, h.output, h.size, h.block, h.frozen⟩
theorem frozen_setCell (w : World) (p : Addr) (u : Value) (a : Addr) : (w.setCell p u).frozen? a = w.frozen? a := by
 unfold World.frozen? World.setCell
 simp only [Array.getElem?_modify]
 by_cases hx : p.block = a.block
 · rw [if_pos hx]
   cases e : w.heap[a.block]? with
   | none => simp
   | some o => cases o <;> simp
 · rw [if_neg hx]
theorem frozen_setRow (w : World) (g : Nat) (cs : Array Value) (x : Addr) : (w.setRow g cs).frozen? x = w.frozen? x := by
 unfold World.frozen? World.setRow
 simp only [Array.getElem?_modify]
 by_cases hx : g = x.block
 · rw [if_pos hx]
   cases e : w.heap[x.block]? with
   | none => simp
   | some o => cases o <;> simp
 · rw [if_neg hx]
theorem Fr.setCell {S : Nat → Prop} {a w : World} (h : Fr S a w) {p : Addr} (hp : p.block < a.heap.size → S p.block) (u : Value) : Fr S a (w.setCell p u) :=
 ⟨h.os, h.output, by simpa [World.setCell] using h.size, fun k hk hs => (Below.heap_setCell w p u k (fun e => hs (e ▸ hp (e ▸ hk)))).trans (h.block k hk hs),
  fun x hx => (frozen_setCell w p u x).trans (h.frozen x hx)⟩
theorem Fr.cell {S : Nat → Prop} {w w' : World} (h : Fr S w w') {p : Addr} {u : Value} (hc : w.cell? p = some u) (hp : ¬ S p.block) : w'.cell? p = some u :=
 (World.cell?_of_block (h.block p.block (World.block_lt_of_cell? w p hc) hp)).trans hc
theorem lt_of_heap {w : World} {k : Nat} {o : Obj} (h : w.heap[k]? = some o) : k < w.heap.size := (Array.getElem?_eq_some_iff.1 h).1
theorem Fr.heap {S : Nat → Prop} {w w' : World} (h : Fr S w w') {k : Nat} {o : Obj} (hc : w.heap[k]? = some o) (hp : ¬ S k) : w'.heap[k]? = some o :=
 (h.block k (lt_of_heap hc) hp).trans hc
def Sp (q : Nat → Prop) (v : Value) (w : World) (v' : Value) (w' : World) : Prop :=
 Fr (fun k => q k ∨ v.ownBlock = some k) w w' ∧ ∀ k, k < w.heap.size → v'.ownBlock = some k → v.ownBlock = some k
theorem Sp.refl (q : Nat → Prop) (v : Value) (w : World) : Sp q v w v w := ⟨Fr.refl _ _, fun _ _ h => h⟩
theorem Sp.trans {q : Nat → Prop} {v v1 v2 : Value} {w w1 w2 : World} (h : Sp q v w v1 w1) (k : Sp q v1 w1 v2 w2) : Sp q v w v2 w2 :=
 ⟨h.1.trans k.1 (fun _ _ s => s) (fun i hi s => s.elim .inl (fun e => .inr (h.2 i hi e))),
  fun i hi e => h.2 i hi (k.2 i (Nat.lt_of_lt_of_le hi h.1.size) e)⟩
theorem Sp.mono {q q' : Nat → Prop} {v v' : Value} {w w' : World} (h : Sp q v w v' w') (hq : ∀ i, i < w.heap.size → q i → q' i) : Sp q' v w v' w' :=
 ⟨h.1.mono (fun i hi s => s.elim (fun a => .inl (hq i hi a)) .inr), h.2⟩
theorem Sp.after {q S : Nat → Prop} {v v' : Value} {w0 w w' : World} (hf : Fr S w0 w) (h : Sp q v w v' w') (hS : ∀ i, i < w0.heap.size → S i → q i) : Sp q v w0 v' w' :=
 ⟨hf.trans h.1 (fun i hi s => .inl (hS i hi s)) (fun _ _ s => s), fun k hk e => h.2 k (Nat.lt_of_lt_of_le hk hf.size) e⟩
theorem Sp.then {q S : Nat → Prop} {v v' : Value} {w w' w2 : World} (h : Sp q v w v' w') (hf : Fr S w' w2) (hS : ∀ i, i < w.heap.size → S i → q i) : Sp q v w v' w2 :=
 ⟨h.1.trans hf (fun _ _ s => s) (fun i hi s => .inl (hS i hi s)), h.2⟩
def no : Nat → Prop := fun _ => False
def nl (s : ByteArray) : List Nat := s.data.toList.map UInt8.toNat
theorem nl_length (s : ByteArray) : (nl s).length = s.size := by simp [nl]
theorem nl_get (s : ByteArray) (k : Nat) (h : k < s.size) : (nl s)[k]? = some s[k].toNat := by
 unfold nl
 have h' : k < s.data.toList.length := by simpa using h
 rw [List.getElem?_map, List.getElem?_eq_getElem h']
 rfl
variable {P : Program} {a : Act} {w : World} {Q : Exit → Act → World → Prop}
def jumps (J : Nat → Act → World → Prop) (Q : Exit → Act → World → Prop) : Exit → Act → World → Prop
 | .goto l, a, w => J l a w
 | e, a, w => Q e a w
theorem wp_labels {c : Code} (J : Nat → Act → World → Prop) (μ : Nat → Act → World → Nat)
 (first : c.wp P (jumps J Q) a w)
 (pass : ∀ l a w, J l a w → ∃ R, findLabel c l = some (.seq .skip R) ∧ R.wp P (jumps (fun l' a' w' => J l' a' w' ∧ μ l' a' w' < μ l a w) Q) a w) : (Code.scope c).wp P Q a w := by
 intro b k cs
 have key : ∀ n l a w, μ l a w = n → J l a w → ∃ e a' w', Q e a' w' ∧ ∃ k0, gotoIn l (.inScope c :: k) = some k0 ∧ Arrives P (lone (b.at a k0) cs w) b k cs e a' w' := by
  intro n
  induction n using Nat.strongRecOn with
  | _ n ih =>
   intro l a w hn hJ
   obtain ⟨R, hf, hR⟩ := pass l a w hJ
   have hg : gotoIn l (.inScope c :: k) = some (.code (.seq .skip R) :: .inScope c :: k) := by simp [gotoIn, hf]
   obtain ⟨e, a₁, w₁, hq, harr⟩ := hR b (.inScope c :: k) cs
   have hs : Steps P (lone (b.at a (.code (.seq .skip R) :: .inScope c :: k)) cs w) (lone (b.at a (.code R :: .inScope c :: k)) cs w) :=
    .head step_seq (.one step_skip)
   have harr' := Arrives.of_steps hs harr
   cases e with
   | normal => exact ⟨.normal, a₁, w₁, hq, _, hg, Steps.trans harr' (.one step_inScope)⟩
   | exit id => exact ⟨.exit id, a₁, w₁, hq, _, hg, fun k' hk => harr' k' (by simp [exitTo, hk])⟩
   | goto l' =>
    obtain ⟨hJ', hlt⟩ := hq
    obtain ⟨e₂, a₂, w₂, hq₂, k2, hg2, harr₂⟩ := ih _ (by omega) l' a₁ w₁ rfl hJ'
    exact ⟨e₂, a₂, w₂, hq₂, _, hg, .of_steps (harr' _ hg2) harr₂⟩
   | ret => exact ⟨_, a₁, w₁, hq, _, hg, harr'⟩
   | panic ch => exact ⟨_, a₁, w₁, hq, _, hg, harr'⟩
   | outgrown => exact ⟨_, a₁, w₁, hq, _, hg, harr'⟩
 obtain ⟨e, a₁, w₁, hq, harr⟩ := first b (.inScope c :: k) cs
 cases e with
 | normal => exact ⟨.normal, a₁, w₁, hq, .head step_scope (Steps.trans harr (.one step_inScope))⟩
 | exit id => exact ⟨.exit id, a₁, w₁, hq, fun k' hk => .head step_scope (harr k' (by simp [exitTo, hk]))⟩
 | goto l' =>
  obtain ⟨e₂, a₂, w₂, hq₂, k2, hg2, harr₂⟩ := key _ l' a₁ w₁ rfl hq
  exact ⟨e₂, a₂, w₂, hq₂, .of_steps (.head step_scope (harr _ hg2)) harr₂⟩
 | ret => exact ⟨_, a₁, w₁, hq, .of_steps (.one step_scope) harr⟩
 | panic ch => exact ⟨_, a₁, w₁, hq, .of_steps (.one step_scope) harr⟩
 | outgrown => exact ⟨_, a₁, w₁, hq, .of_steps (.one step_scope) harr⟩
theorem wp_label_one {c R0 : Code} (l0 : Nat) (J0 : Act → World → Prop) (μ : Act → World → Nat) (hf0 : findLabel c l0 = some (.seq .skip R0))
 (first : ∀ K : Exit → Act → World → Prop, (∀ a w, J0 a w → R0.wp P K a w) → (∀ a w, Q .ret a w → K .ret a w) → (∀ a w, Q .normal a w → K .normal a w) → c.wp P K a w)
 (pass0 : ∀ a w, J0 a w → ∀ K : Exit → Act → World → Prop, (∀ a' w', J0 a' w' → μ a' w' < μ a w → K (.goto l0) a' w') → (∀ a w, Q .ret a w → K .ret a w) → (∀ a w, Q .normal a w → K .normal a w) → R0.wp P K a w) :
 (Code.scope c).wp P Q a w := by
 refine wp_labels (fun l a w => l = l0 ∧ J0 a w) (fun _ => μ) ?_ ?_
 · exact first _ (fun a w h => pass0 a w h _ (fun _ _ h' _ => ⟨rfl, h'⟩) (fun _ _ h' => h') (fun _ _ h' => h')) (fun _ _ h => h) (fun _ _ h => h)
 · rintro l a w ⟨rfl, h⟩
   exact ⟨R0, hf0, pass0 a w h _ (fun _ _ h' hl => ⟨⟨rfl, h'⟩, hl⟩) (fun _ _ h' => h') (fun _ _ h' => h')⟩
theorem Fr.new {S : Nat → Prop} {w w1 w2 : World} (h : Fr no w w1) (k : Fr S w1 w2) (hS : ∀ i, i < w.heap.size → ¬ S i) : Fr no w w2 :=
 h.trans k (fun _ _ f => f) (fun i hi s => hS i hi s)
theorem run_bits (a : Nat) (w : World) : (callFunc 123 #[.float .f64 a]).run Tryz.prog w = .ok (.value (.int .u64 (a : Int))) w := by
 rw [run_callFunc_extern (e := Extern.MathFloatBits.float64bits) Tryz.func123 (by kernel_rfl) (by kernel_rfl) (by kernel_rfl) (by kernel_rfl)]
 rfl
theorem take_next {α : Type} (l : List α) (k : Nat) (x : α) (h : l[k]? = some x) : l.take (k + 1) = l.take k ++ [x] := by
 rw [List.take_add_one, h]
 rfl
theorem size_alloc (w : World) (o : Obj) : (w.alloc o).heap.size = w.heap.size + 1 := by
 show (w.heap.push o).size = _
 exact Array.size_push _
def SlI (w : World) (v : Value) (l : List (Int × Int)) : Prop :=
 ∃ ad cap, v = .slice ad l.length cap ∧ l.length ≤ cap ∧ cap ≤ maxLen ∧ ∀ (i : Nat) (x : Int × Int), l[i]? = some x → ∃ b off, ad = some ⟨b, off, none⟩ ∧
  w.cell? ⟨b, off + i * 2, none⟩ = some (.int .i64 x.1) ∧ w.cell? ⟨b, off + i * 2 + 1, none⟩ = some (.int .i64 x.2)
theorem SlI.kept {w w' : World} {v : Value} {l : List (Int × Int)} (h : SlI w v l) (hf : Fr no w w') : SlI w' v l := by
 obtain ⟨ad, cap, rfl, h1, h2, h3⟩ := h
 refine ⟨ad, cap, rfl, h1, h2, fun i x hx => ?_⟩
 obtain ⟨b, off, rfl, c0, c1⟩ := h3 i x hx
 exact ⟨b, off, rfl, hf.cell c0 (fun f => f), hf.cell c1 (fun f => f)⟩
end Go.Proofs.YtalgjpmaafooeaaGreatDoor
/- What an instruction is, whether it stops. -/
namespace Go.Proofs.YtalgjpmaafooeaaGreatDoor
open Go.ChangeShapes Go.WideShapes Go.ChangeAt Go.RowKit
def opds : List Int := [0, 2, 2, 0, 1, 1, 0, 0, 0, 0, 0, 0, 0, 0, 0, 0, 0, 0, 0, 0, 0, 0, 3, 3, 3, 2, 2, 2, 0, 0, 0, 0, 2, 0, 0, 0, 2, 2, 1, 1, 0, 0, 0, 2, 0, 0, 0, 0]
def trts : List Int := [0, 0, 0, 0, 0, 0, 0, 0, 0, 0, 0, 4, 4, 0, 0, 0, 0, 0, 0, 0, 0, 0, 3, 2, 2, 4, 4, 4, 4, 4, 4, 4, 4, 1, 1, 5, 4, 0, 4, 0, 4, 4, 4, 4, 4, 0, 0, 0]
def opd (n : Nat) : Int := opds.getD n 0
def trt (n : Nat) : Int := trts.getD n 0
structure Tb (w : World) : Prop where
 op : ∀ n, n < 48 → w.cell? ⟨0, n, none⟩ = some (.int .i8 (opd n))
def Tr (w : World) : Prop := ∀ n, n < 48 → w.cell? ⟨1, n, none⟩ = some (.int .u8 (trt n))
theorem Tb.kept {w w' : World} (h : Tb w) (hf : Fr no w w') : Tb w' :=
 ⟨fun n hn => hf.cell (h.op n hn) (fun f => f)⟩
theorem Tr.kept {w w' : World} (h : Tr w) (hf : Fr no w w') : Tr w' := fun n hn => hf.cell (h n hn) (fun f => f)
theorem opd_bounds (n : Nat) (h : n < 48) : 0 ≤ opd n ∧ opd n ≤ 3 := by
 have key : ∀ d : Fin 48, 0 ≤ opd d.val ∧ opd d.val ≤ 3 := by decide +kernel
 exact key ⟨n, h⟩
def od (op : Int) : Int := if 0 ≤ op ∧ op < 48 then opd op.toNat else -1
theorem od_in (n : Nat) (h : n < 48) : od (n : Int) = opd n := by unfold od; rw [if_pos (by omega)]; simp
theorem od_out (op : Int) (h : ¬ (0 ≤ op ∧ op < 48)) : od op = -1 := by unfold od; rw [if_neg h]
def isb (op a : Int) : Bool := decide (od op = 0 ∧ a = 0 ∨ 0 < od op ∧ 0 ≤ a ∧ a ≤ 999)
theorem isop_any (w : World) (op : Int) : Calls Tryz.prog 124 #[.int .i64 op] w fun e w' => e = .returned (.bool (decide (0 ≤ op ∧ op < 48))) ∧ w' = w := by
 by_cases h1 : 0 ≤ op
 · by_cases h2 : op < 48
   · go_enter Tryz.func124, Tryz.ntmps124
     go_wp2_with fail
     go_ret
     exact ⟨by simp [h1, h2], rfl⟩
   · go_enter Tryz.func124, Tryz.ntmps124
     go_wp2_with fail
     go_ret
     exact ⟨by simp [h2], rfl⟩
 · go_enter Tryz.func124, Tryz.ntmps124
   go_wp2_with fail
   go_ret
   exact ⟨by simp; omega, rfl⟩
theorem operand_any (w : World) (h : Tb w) (op : Int) : Calls Tryz.prog 103 #[.int .i64 op] w fun e w' => e = .returned (.int .i64 (od op)) ∧ w' = w := by
 by_cases hr : 0 ≤ op ∧ op < 48
 · obtain ⟨n, rfl⟩ : ∃ n : Nat, op = (n : Int) := ⟨op.toNat, by omega⟩
   have hn : n < 48 := by omega
   have hc := h.op n hn
   have hb := opd_bounds n hn
   have I := isop_any w (n : Int)
   rw [decide_eq_true hr] at I
   rw [od_in n hn]
   generalize opd n = k at *
   clear h hr
   go_enter Tryz.func103, Tryz.ntmps103
   go_wp2_with fail
   refine I.mono ?_
   rintro e w' ⟨rfl, rfl⟩
   go_wp2_with fail
   go_ret
   exact ⟨rfl, rfl⟩
 · have I := isop_any w op
   rw [decide_eq_false hr] at I
   rw [od_out op hr]
   clear h hr
   go_enter Tryz.func103, Tryz.ntmps103
   go_wp2_with fail
   refine I.mono ?_
   rintro e w' ⟨rfl, rfl⟩
   go_wp2_with fail
   go_ret
   exact ⟨rfl, rfl⟩
def ins (op a : Int) : Value := .agg #[.int .i64 op, .int .i64 a]
theorem isb_none (op a : Int) (h : od op = -1) : isb op a = false := by unfold isb; rw [h]; simp
theorem isb_zero (op a : Int) (h : od op = 0) : isb op a = decide (a = 0) := by unfold isb; rw [h]; simp
theorem isb_pos (op a : Int) (h : 0 < od op) : isb op a = decide (0 ≤ a ∧ a ≤ 999) := by
 unfold isb
 have : ¬ od op = 0 := by omega
 simp [this, h]
theorem od_cases (op : Int) : od op = -1 ∨ od op = 0 ∨ (0 < od op ∧ od op ≤ 3) := by
 by_cases h : 0 ≤ op ∧ op < 48
 · obtain ⟨n, rfl⟩ : ∃ n : Nat, op = (n : Int) := ⟨op.toNat, by omega⟩
   rw [od_in n (by omega)]
   have := opd_bounds n (by omega)
   omega
 · exact .inl (od_out op h)
theorem is_any (w : World) (h : Tb w) (op a : Int) : Calls Tryz.prog 102 #[ins op a] w fun e w' => e = .returned (.bool (isb op a)) ∧ Fr no w w' := by
 unfold ins
 have hf : Fr no w (w.alloc (.cells #[.int .i64 op, .int .i64 a] 27)) := (Fr.refl no w).alloc _ _
 have O := operand_any _ (h.kept hf) op
 have HF : Hid (Fr no w (w.alloc (.cells #[.int .i64 op, .int .i64 a] 27))) := hf
 clear h hf
 rcases od_cases op with e | e | ⟨e1, e2⟩
 · rw [isb_none op a e]
   rw [e] at O
   clear e
   go_enter Tryz.func102, Tryz.ntmps102
   go_wp2_with fail
   refine O.mono ?_
   rintro e w' ⟨rfl, rfl⟩
   go_wp2_with fail
   go_ret
   exact ⟨rfl, HF.out⟩
 · have HI : Hid (isb op a = decide (a = 0)) := isb_zero op a e
   rw [e] at O
   clear e
   go_enter Tryz.func102, Tryz.ntmps102
   go_wp2_with fail
   refine O.mono ?_
   rintro e w' ⟨rfl, rfl⟩
   go_wp2_with fail
   go_ret
   rw [HI.out]
   exact ⟨by first | rfl | (simp [BEq.beq]; done), HF.out⟩
 · have q1 : (od op == 0) = false := by simp; omega
   have q2 : (od op == -1) = false := by simp; omega
   have HI : Hid (isb op a = decide (0 ≤ a ∧ a ≤ 999)) := isb_pos op a e1
   generalize od op = k at *
   clear e1 e2
   by_cases h1 : 0 ≤ a
   · by_cases h2 : a ≤ 999
     · go_enter Tryz.func102, Tryz.ntmps102
       go_wp2_with fail
       refine O.mono ?_
       rintro e w' ⟨rfl, rfl⟩
       go_wp2_with fail
       go_ret
       rw [HI.out]
       exact ⟨by simp [h1, h2], HF.out⟩
     · go_enter Tryz.func102, Tryz.ntmps102
       go_wp2_with fail
       refine O.mono ?_
       rintro e w' ⟨rfl, rfl⟩
       go_wp2_with fail
       go_ret
       rw [HI.out]
       exact ⟨by simp; omega, HF.out⟩
   · go_enter Tryz.func102, Tryz.ntmps102
     go_wp2_with fail
     refine O.mono ?_
     rintro e w' ⟨rfl, rfl⟩
     go_wp2_with fail
     go_ret
     rw [HI.out]
     exact ⟨by simp; omega, HF.out⟩
def has (op t : Int) : Bool := decide (0 ≤ op ∧ op < 48) && !(bits .and .u8 (trt op.toNat) t == 0)
theorem has_out (op t : Int) (h : ¬ (0 ≤ op ∧ op < 48)) : has op t = false := by unfold has; rw [decide_eq_false h]; rfl
theorem has_in (n : Nat) (t : Int) (h : n < 48) : has (n : Int) t = !(bits .and .u8 (trt n) t == 0) := by
 unfold has
 rw [decide_eq_true (by omega)]
 simp
set_option maxRecDepth 100000 in
theorem does_any (w : World) (h : Tr w) (op t : Int) : Calls Tryz.prog 106 #[.int .i64 op, .int .u8 t] w fun e w' => e = .returned (.bool (has op t)) ∧ w' = w := by
 by_cases hr : 0 ≤ op ∧ op < 48
 · obtain ⟨n, rfl⟩ : ∃ n : Nat, op = (n : Int) := ⟨op.toNat, by omega⟩
   have hn : n < 48 := by omega
   have hc := h n hn
   have I := isop_any w (n : Int)
   rw [decide_eq_true hr] at I
   have HI : Hid (has (n : Int) t = !(bits .and .u8 (trt n) t == 0)) := has_in n t hn
   generalize trt n = k at *
   clear h hr
   go_enter Tryz.func106, Tryz.ntmps106
   go_wp2_with fail
   refine I.mono ?_
   rintro e w' ⟨rfl, rfl⟩
   go_wp2_with fail
   go_ret
   exact ⟨by rw [HI.out]; rfl, rfl⟩
 · have I := isop_any w op
   rw [decide_eq_false hr] at I
   rw [has_out op t hr]
   clear h hr
   go_enter Tryz.func106, Tryz.ntmps106
   go_wp2_with fail
   refine I.mono ?_
   rintro e w' ⟨rfl, rfl⟩
   go_wp2_with fail
   go_ret
   exact ⟨rfl, rfl⟩
theorem stops_any (w : World) (h : Tr w) (op : Int) : Calls Tryz.prog 75 #[.int .i64 op] w fun e w' => e = .returned (.bool (has op 1)) ∧ w' = w := by
 have D := does_any w h op 1
 go_enter Tryz.func75, Tryz.ntmps75
 go_wp2_with fail
 refine D.mono ?_
 rintro e w' ⟨rfl, rfl⟩
 go_wp2_with fail
 go_ret
 exact ⟨rfl, rfl⟩
end Go.Proofs.YtalgjpmaafooeaaGreatDoor
/- What a name is. -/
namespace Go.Proofs.YtalgjpmaafooeaaGreatDoor
open Go.ChangeShapes Go.WideShapes Go.ChangeAt Go.RowKit
def letter (c : Nat) : Bool := decide (97 ≤ c ∧ c ≤ 122 ∨ 65 ≤ c ∧ c ≤ 90 ∨ c = 95 ∨ c = 36)
def digit (c : Nat) : Bool := decide (48 ≤ c ∧ c ≤ 57)
def nameL (l : List Nat) : Bool := decide (l ≠ []) && decide (l.length ≤ 20) && !digit (l.getD 0 0) && l.all fun c => letter c || digit c
def isName (s : ByteArray) : Bool := nameL (nl s)
theorem isDigit_any (w : World) (c : Nat) : Calls Tryz.prog 61 #[.int .u8 (c : Int)] w fun e w' => e = .returned (.bool (digit c)) ∧ w' = w := by
 by_cases h1 : 48 ≤ c
 · by_cases h2 : c ≤ 57
   · rw [show digit c = true by simp [digit]; omega]
     go_enter Tryz.func61, Tryz.ntmps61
     go_wp2_with fail
     go_ret
     exact ⟨by simp; omega, rfl⟩
   · rw [show digit c = false by simp [digit]; omega]
     go_enter Tryz.func61, Tryz.ntmps61
     go_wp2_with fail
     go_ret
     exact ⟨by simp; omega, rfl⟩
 · rw [show digit c = false by simp [digit]; omega]
   go_enter Tryz.func61, Tryz.ntmps61
   go_wp2_with fail
   go_ret
   exact ⟨rfl, rfl⟩
theorem isLetter_any (w : World) (c : Nat) : Calls Tryz.prog 62 #[.int .u8 (c : Int)] w fun e w' => e = .returned (.bool (letter c)) ∧ w' = w := by
 rcases (show (97 ≤ c ∧ c ≤ 122) ∨ (65 ≤ c ∧ c ≤ 90) ∨ c = 95 ∨ c = 36 ∨ (c < 65 ∧ c ≠ 36) ∨ (90 < c ∧ c < 97 ∧ c ≠ 95) ∨ 122 < c by omega) with ⟨h1, h2⟩ | ⟨h1, h2⟩ | h1 | h1 | ⟨h1, h2⟩ | ⟨h1, h2, h3⟩ | h1
 · rw [show letter c = true by simp [letter]; omega]
   go_enter Tryz.func62, Tryz.ntmps62
   go_wp2_with fail
   go_ret
   exact ⟨rfl, rfl⟩
 · rw [show letter c = true by simp [letter]; omega]
   have h3 : ¬ 97 ≤ c := by omega
   go_enter Tryz.func62, Tryz.ntmps62
   go_wp2_with fail
   go_ret
   exact ⟨rfl, rfl⟩
 · subst h1
   go_enter Tryz.func62, Tryz.ntmps62
   go_wp2_with fail
   go_ret
   exact ⟨rfl, rfl⟩
 · subst h1
   go_enter Tryz.func62, Tryz.ntmps62
   go_wp2_with fail
   go_ret
   exact ⟨rfl, rfl⟩
 · rw [show letter c = false by simp [letter]; omega]
   have h3 : ¬ 97 ≤ c := by omega
   have h4 : ¬ 65 ≤ c := by omega
   have h5 : ((c : Int) == 95) = false := by simp; omega
   have h6 : ((c : Int) == 36) = false := by simp; omega
   go_enter Tryz.func62, Tryz.ntmps62
   go_wp2_with fail
   go_ret
   exact ⟨rfl, rfl⟩
 · rw [show letter c = false by simp [letter]; omega]
   have h3 : ¬ 97 ≤ c := by omega
   have h4 : ¬ c ≤ 90 := by omega
   have h5 : ((c : Int) == 95) = false := by simp; omega
   have h6 : ((c : Int) == 36) = false := by simp; omega
   go_enter Tryz.func62, Tryz.ntmps62
   go_wp2_with fail
   go_ret
   exact ⟨by simp; omega, rfl⟩
 · rw [show letter c = false by simp [letter]; omega]
   have h3 : ¬ c ≤ 122 := by omega
   have h4 : ¬ c ≤ 90 := by omega
   have h5 : ((c : Int) == 95) = false := by simp; omega
   have h6 : ((c : Int) == 36) = false := by simp; omega
   go_enter Tryz.func62, Tryz.ntmps62
   go_wp2_with fail
   go_ret
   exact ⟨by simp; omega, rfl⟩
def NameAt (w0 : World) (s : ByteArray) (a : Act) (w : World) : Prop :=
 ∃ (k : Nat) (u1 u2 u3 u4 u5 u6 u7 u8 u9 u10 u11 u12 u13 u14 u15 u16 u17 u18 u19 u20 u21 u22 u23 u24 u25 u26 u27 u28 u29 u30 u31 u32 u33 : Value), a = { tmps := #[.string s, u1, u2, u3, u4, u5, u6, u7, u8, u9, u10, u11, u12, u13, u14, u15, u16, u17, u18, u19, u20, u21, u22, u23, u24, u25, u26, u27, u28, u29, u30, u31, u32, u33], defers := [] } ∧ u3 = .int .i64 (k : Int) ∧ w = w0 ∧ k ≤ s.size ∧ s.size ≠ 0 ∧ s.size ≤ 20 ∧ digit ((nl s).getD 0 0) = false ∧ ((nl s).take k).all (fun c => letter c || digit c) = true
theorem nameL_len (l : List Nat) (h : 20 < l.length) : nameL l = false := by
 unfold nameL
 rw [decide_eq_false (show ¬ l.length ≤ 20 by omega)]
 simp
theorem nameL_dig (l : List Nat) (h : digit (l.getD 0 0) = true) : nameL l = false := by
 unfold nameL
 rw [h]
 simp
theorem nameL_bad (l : List Nat) (k c : Nat) (hk : l[k]? = some c) (h : (letter c || digit c) = false) : nameL l = false := by
 unfold nameL
 have : (l.all fun c => letter c || digit c) = false := by
  rw [List.all_eq_false]
  exact ⟨c, List.mem_of_getElem? hk, by simpa using h⟩
 rw [this]
 simp
theorem nameL_ok (l : List Nat) (h0 : l ≠ []) (h1 : l.length ≤ 20) (h2 : digit (l.getD 0 0) = false) (h3 : (l.all fun c => letter c || digit c) = true) : nameL l = true := by
 unfold nameL
 rw [h2, h3, decide_eq_true h0, decide_eq_true h1]
 rfl
theorem toList_nil (s : ByteArray) : s.toList = [] ↔ s.size = 0 := by
 rw [ByteArray.toList_eq]
 show s.data.toList = [] ↔ s.data.size = 0
 rw [← Array.length_toList]
 exact List.length_eq_zero_iff.symm
set_option maxRecDepth 100000 in
theorem isName_any (w : World) (s : ByteArray) (hs : s.size ≤ 1099511627776) : Calls Tryz.prog 34 #[.string s] w fun e w' => e = .returned (.bool (isName s)) ∧ w' = w := by
 go_enter Tryz.func34, Tryz.ntmps34
 go_wp2_with fail
 refine wp_label_one 0 (NameAt w s) (fun a' _ => s.size - (intOf (a'.tmps.getD 3 undef)).toNat) rfl ?_ ?_
 · intro K h0 hr hn'
   by_cases he : s.toList = []
   · have HN : Hid (isName s = false) := by
      show _ = _
      have : nl s = [] := List.eq_nil_of_length_eq_zero (by rw [nl_length]; exact (toList_nil s).1 he)
      unfold isName
      rw [this]
      rfl
     go_wp2_with fail
     refine hr _ _ ?_
     go_ret
     rw [HN.out]
     exact ⟨rfl, rfl⟩
   · have hne : s.toList.isEmpty = false := by simpa using he
     have h0s : s.size ≠ 0 := fun h => he ((toList_nil s).2 h)
     by_cases hbig : 20 < s.size
     · have HN : Hid (isName s = false) := nameL_len _ (by rw [nl_length]; exact hbig)
       go_wp2_with fail
       refine hr _ _ ?_
       go_ret
       rw [HN.out]
       exact ⟨rfl, rfl⟩
     · have hc : (nl s)[0]? = some s[0].toNat := nl_get s 0 (by omega)
       have HD : Hid ((nl s).getD 0 0 = s[0].toNat) := by show _ = _; rw [List.getD_eq_getElem?_getD, hc]; rfl
       have D := isDigit_any w s[0].toNat
       have hb20 : decide (20 < (s.size : Int)) = false := by simp; omega
       clear hc
       by_cases hdig : digit s[0].toNat = true
       · have HN : Hid (isName s = false) := nameL_dig _ (by rw [HD.out]; exact hdig)
         rw [hdig] at D
         go_wp2_with fail
         refine D.mono ?_
         rintro e w1 ⟨rfl, rfl⟩
         go_wp2_with fail
         refine hr _ _ ?_
         go_ret
         rw [HN.out]
         exact ⟨rfl, rfl⟩
       · have hdig' : digit s[0].toNat = false := by simpa using hdig
         rw [hdig'] at D
         go_wp2_with fail
         refine D.mono ?_
         rintro e w1 ⟨rfl, rfl⟩
         go_wp2_with fail
         go_step3
         rename_i hk
         exact hk _ _ (h0 _ _ ⟨0, _, _, _, _, _, _, _, _, _, _, _, _, _, _, _, _, _, _, _, _, _, _, _, _, _, _, _, _, _, _, _, _, _, rfl, rfl, rfl, Nat.zero_le _, h0s, by omega, by rw [HD.out]; exact hdig', rfl⟩)
 · rintro a' w' ⟨k, u1, u2, u3, u4, u5, u6, u7, u8, u9, u10, u11, u12, u13, u14, u15, u16, u17, u18, u19, u20, u21, u22, u23, u24, u25, u26, u27, u28, u29, u30, u31, u32, u33, rfl, rfl, rfl, hk, h0s, h20, hd, hall⟩ K hj hr hn'
   have HA : Hid (((nl s).take k).all (fun c => letter c || digit c) = true) := hall
   have HD : Hid (digit ((nl s).getD 0 0) = false) := hd
   clear hall hd
   by_cases hend : k = s.size
   · subst hend
     have HN : Hid (isName s = true) := by
      refine nameL_ok _ (fun h => h0s ?_) (by rw [nl_length]; exact h20) HD.out ?_
      · rw [← nl_length, h]; rfl
      · have := HA.out
        rwa [← nl_length, List.take_length] at this
     go_wp2_with fail
     refine hr _ _ ?_
     go_ret
     rw [HN.out]
     exact ⟨rfl, rfl⟩
   · have hlt : k < s.size := by omega
     have hne : ((k : Int) == (s.size : Int)) = false := by simp; omega
     have hc : (nl s)[k]? = some s[k].toNat := nl_get s k hlt
     have HC : Hid ((nl s)[k]? = some s[k].toNat) := hc
     have L := isLetter_any w' s[k].toNat
     have D := isDigit_any w' s[k].toNat
     clear hc
     have STEP : Hid ((letter s[k].toNat || digit s[k].toNat) = true → ((nl s).take (k + 1)).all (fun c => letter c || digit c) = true) := by
      intro h
      rw [take_next _ k _ HC.out, List.all_append, HA.out]
      simpa using h
     have BAD : Hid ((letter s[k].toNat || digit s[k].toNat) = false → isName s = false) := fun h => nameL_bad _ k _ HC.out h
     generalize hcv : s[k].toNat = c at *
     by_cases hl : letter c = true
     · rw [hl] at L
       go_wp2_with fail
       refine L.mono ?_
       rintro e w1 ⟨rfl, rfl⟩
       go_wp2_with fail
       go_step3
       refine hj _ _ ⟨k + 1, _, _, _, _, _, _, _, _, _, _, _, _, _, _, _, _, _, _, _, _, _, _, _, _, _, _, _, _, _, _, _, _, _, rfl, by go_num, rfl, by omega, h0s, h20, HD.out, STEP.out (by rw [hl]; rfl)⟩ ?_
       simp [intOf]
       omega
     · have hl' : letter c = false := by simpa using hl
       rw [hl'] at L
       by_cases hdg : digit c = true
       · rw [hdg] at D
         go_wp2_with fail
         refine L.mono ?_
         rintro e w1 ⟨rfl, rfl⟩
         go_wp2_with fail
         refine D.mono ?_
         rintro e w1 ⟨rfl, rfl⟩
         go_wp2_with fail
         go_step3
         refine hj _ _ ⟨k + 1, _, _, _, _, _, _, _, _, _, _, _, _, _, _, _, _, _, _, _, _, _, _, _, _, _, _, _, _, _, _, _, _, _, rfl, by go_num, rfl, by omega, h0s, h20, HD.out, STEP.out (by rw [hl', hdg]; rfl)⟩ ?_
         simp [intOf]
         omega
       · have hdg' : digit c = false := by simpa using hdg
         rw [hdg'] at D
         have HN : Hid (isName s = false) := BAD.out (by rw [hl', hdg']; rfl)
         go_wp2_with fail
         refine L.mono ?_
         rintro e w1 ⟨rfl, rfl⟩
         go_wp2_with fail
         refine D.mono ?_
         rintro e w1 ⟨rfl, rfl⟩
         go_wp2_with fail
         refine hr _ _ ?_
         go_ret
         rw [HN.out]
         exact ⟨rfl, rfl⟩
end Go.Proofs.YtalgjpmaafooeaaGreatDoor
/- Slices of structs: read ones, and ones that the calls have made. -/
namespace Go.Proofs.YtalgjpmaafooeaaGreatDoor
open Go.ChangeShapes Go.WideShapes Go.ChangeAt Go.RowKit
structure El (α : Type) where
 t : TypeId
 e : TypeId
 n : Nat
 z : Value
 b : Nat
 f : α → List Value
def nob (u : Value) : Prop := ∀ c, u ≠ .int .u8 c
structure El.Ok {α : Type} (K : El α) : Prop where
 und : Tryz.prog.underlying K.t = some (.slice K.e)
 info : (Tryz.prog.info? K.e).map (fun i => (i.zero, i.size, i.bytes)) = some (some K.z, K.n, K.b)
 len : ∀ x, (K.f x).length = K.n
 one : ∀ x, ∀ u ∈ K.f x, u.oneCell' = true
 nb : ∀ x, ∀ u ∈ K.f x, nob u
 zlen : K.z.cells.size = K.n
 znb : ∀ u ∈ K.z.cells.toList, nob u
 bs : K.b ≤ 256
 pos : 0 < K.n
variable {α : Type} {K : El α}
def cg (K : El α) (l : List α) : List Value := l.flatMap K.f
theorem cg_append (l m : List α) : cg K l ++ cg K m = cg K (l ++ m) := by unfold cg; simp
theorem cg_length (hK : K.Ok) (l : List α) : (cg K l).length = l.length * K.n := by
 induction l with
 | nil => simp [cg]
 | cons x l ih =>
  have : cg K (x :: l) = K.f x ++ cg K l := rfl
  rw [this, List.length_append, ih, hK.len, List.length_cons, Nat.add_mul, Nat.one_mul, Nat.add_comm]
theorem cg_get (hK : K.Ok) (l : List α) (i : Nat) (x : α) (h : l[i]? = some x) (j : Nat) (u : Value) (hj : (K.f x)[j]? = some u) : (cg K l)[i * K.n + j]? = some u := by
 induction l generalizing i with
 | nil => simp at h
 | cons y l ih =>
  have e : cg K (y :: l) = K.f y ++ cg K l := rfl
  have hjn : j < K.n := by
   rw [← hK.len x]
   exact (List.getElem?_eq_some_iff.1 hj).1
  rw [e]
  cases i with
  | zero =>
   simp at h
   subst h
   rw [Nat.zero_mul, Nat.zero_add, List.getElem?_append_left (by rw [hK.len]; exact hjn)]
   exact hj
  | succ i =>
   have := ih i (by simpa using h)
   rw [List.getElem?_append_right (by rw [hK.len, Nat.add_mul]; omega), hK.len]
   rw [show (i + 1) * K.n + j - K.n = i * K.n + j by rw [Nat.add_mul]; omega]
   exact this
theorem cg_one (hK : K.Ok) (l : List α) : ∀ u ∈ cg K l, u.oneCell' = true := by
 intro u hu
 obtain ⟨x, _, h⟩ := List.mem_flatMap.1 hu
 exact hK.one x u h
theorem cg_nob (hK : K.Ok) (l : List α) : ∀ u ∈ cg K l, nob u := by
 intro u hu
 obtain ⟨x, _, h⟩ := List.mem_flatMap.1 hu
 exact hK.nb x u h
def OwnG (K : El α) (w : World) (v : Value) (l : List α) : Prop :=
 w.ownsRow 0 K.e K.n v l.length (cg K l) ∧ ∀ (k : Nat) (cur : Array Value) (t : TypeId) (fz : Nat × Nat), v.ownBlock = some k → w.heap[k]? = some (.cells cur t fz) → ∀ u ∈ cur.toList, nob u
theorem OwnG.nil (K : El α) (w : World) : OwnG K w (.slice none 0 0) [] := ⟨World.ownsRow_nil _ _ _ _, fun k _ _ _ hk => by simp [Value.ownBlock] at hk⟩
theorem OwnG.lt {w : World} {v : Value} {l : List α} (h : OwnG K w v l) {k : Nat} (hk : v.ownBlock = some k) : k < w.heap.size := (World.ownsRow.lt h.1 k hk).2
theorem OwnG.kept {S : Nat → Prop} {w w' : World} {v : Value} {l : List α} (h : OwnG K w v l) (hf : Fr S w w') (hS : ∀ k, v.ownBlock = some k → ¬ S k) : OwnG K w' v l := by
 refine ⟨⟨h.1.1, ?_⟩, fun k cur t fz hk hc => h.2 k cur t fz hk ((hf.block k (h.lt hk) (hS k hk)).symm.trans hc)⟩
 rcases h.1.2 with hn | ⟨g, cap, cur, rfl, hb, hgg, rest⟩
 · exact .inl hn
 · exact .inr ⟨g, cap, cur, rfl, hb, hf.heap hgg (hS g rfl), rest⟩
theorem OwnG.form {w : World} {v : Value} {l : List α} (h : OwnG K w v l) : ∃ o cap, v = .slice o l.length cap := by
 rcases h.1.2 with ⟨rfl, h0⟩ | ⟨g, cap, cur, rfl, _⟩
 · exact ⟨_, _, by rw [h0]⟩
 · exact ⟨_, _, rfl⟩
theorem OwnG.tag {w : World} {v : Value} {l : List α} (h : OwnG K w v l) {k : Nat} (hk : v.ownBlock = some k) : ∃ cur, w.heap[k]? = some (.cells cur K.e (0, 0)) := by
 rcases h.1.2 with ⟨rfl, _⟩ | ⟨g, cap, cur, rfl, hb, hgg, _⟩
 · simp [Value.ownBlock] at hk
 · simp [Value.ownBlock] at hk
   subst hk
   exact ⟨cur, hgg⟩
theorem at_nob {cs : Array Value} (h0 : 0 < cs.size) (h : ∀ u ∈ cs.toList, nob u) (i : Nat) : nob cs[i % cs.size]! := by
 have hlt : i % cs.size < cs.size := Nat.mod_lt _ h0
 rw [getElem!_pos cs _ hlt]
 exact h _ (Array.mem_toList_iff.2 (Array.getElem_mem hlt))
theorem zero_nob (hK : K.Ok) (n : Nat) : ∀ u ∈ (Builtin.zeroCells K.z.cells n).toList, nob u := by
 intro u hu
 unfold Builtin.zeroCells at hu
 simp only [Array.toList_map, List.mem_map] at hu
 obtain ⟨i, _, rfl⟩ := hu
 exact at_nob (by rw [hK.zlen]; exact hK.pos) hK.znb i
theorem run_makeG (hK : K.Ok) (w : World) (n : Nat) (h : n ≤ 1000) :
 (Instr.makeSlice K.t (.int .i64 0) (.int .i64 (n : Int))).run Tryz.prog w = .ok (.slice (some ⟨w.heap.size, 0, none⟩) 0 n) (w.alloc (.cells (madeCells K.z.cells (n * K.n)) K.e)) := by
 obtain ⟨i0, hi, hz0, hz1, hz2⟩ := info_parts hK.info
 have hb := hK.bs
 have hbb : (K.b : Int) * (n : Int) ≤ 256 * 1000 := Int.mul_le_mul (by omega) (by omega) (by omega) (by omega)
 have hl := hK.zlen
 have := _root_.Go.run_make w K.t K.e i0 K.z hK.und hi hz0 .i64 .i64 0 (n : Int) (by omega) (by omega) (by rw [hz2]; omega) (by omega)
 rw [hz1] at this
 simpa using this
theorem run_apdG (hK : K.Ok) (w : World) (v : Value) (l : List α) (hown : OwnG K w v l) (x : Value) (m : List α) (hs : Src Tryz.prog K.n K.t x m.length (cg K m) w)
 (hm0 : v = .slice none 0 0 → m ≠ []) (hb : l.length + m.length ≤ 1000000) :
 ∃ v' w', (Builtin.append_ #[K.t, K.t] K.t #[v, x]).run Tryz.prog w = .ok v' w' ∧ OwnG K w' v' (l ++ m) ∧ Sp no v w v' w' := by
 obtain ⟨i0, hi, hz0, hz1, hz2⟩ := info_parts hK.info
 have ht := hK.und
 have hlen : (cg K (l ++ m)).length = (l ++ m).length * K.n := cg_length hK _
 have hbs := hK.bs
 have hbb : (l.length + m.length) * K.b ≤ 1000000 * 256 := Nat.mul_le_mul hb hbs
 have grown : ∀ (b : Option Addr) (sCap : Nat), v = .slice b l.length sCap → sCap < l.length + m.length →
  (Builtin.firstCells i0.size l.length (.slice b l.length sCap)).run Tryz.prog w.drew = .ok (cg K l).toArray w.drew →
  ∃ v' w', (Builtin.append_ #[K.t, K.t] K.t #[v, x]).run Tryz.prog w = .ok v' w' ∧ OwnG K w' v' (l ++ m) ∧ Sp no v w v' w' := by
  intro b sCap hv hlt hold
  subst hv
  have hr := run_append_grow_src (P := Tryz.prog) w K.t K.t K.t K.e i0 K.z ht hi hz0 b l.length sCap (cg K l) hold x m.length (cg K m) (by rw [hz1]; exact hs) hlt (by omega)
   (by rw [hz2]; exact growslice_fits (by omega) (by omega))
  have hge := grownCap_ge w (l.length + m.length) sCap K.e
  have hcm : grownCap w (l.length + m.length) sCap K.e ≤ maxLen := grownCap_le_maxLen w _ sCap K.e (by unfold maxLen; omega)
  refine ⟨_, _, hr, ⟨⟨hlen, .inr ⟨w.heap.size, grownCap w (l.length + m.length) sCap K.e, _, ?_, Nat.zero_le _, heap_alloc_new w.drew _, ?_, hcm, ?_, ?_⟩⟩, ?_⟩, ?_⟩
  · simp
  · simpa using hge
  · simp only [Array.size_append, List.size_toArray, size_zeroCells, List.length_append, cg_length hK]
    rw [hK.zlen]
    obtain ⟨d, hd⟩ : ∃ d, grownCap w (l.length + m.length) sCap K.e = (l.length + m.length) + d := ⟨_, (Nat.add_sub_of_le hge).symm⟩
    rw [hd, Nat.add_sub_cancel_left, Nat.add_mul, Nat.add_mul]
  · rw [cg_append, Array.toList_append]
    simp only []
    rw [List.take_append_of_le_length (by rw [cg_length hK]; omega)]
    exact List.take_of_length_le (by rw [cg_length hK]; omega)
  · intro k cur t fz hk hc
    simp only [Value.ownBlock, Option.some.injEq] at hk
    subst hk
    have hn := heap_alloc_new w.drew (.cells ((cg K l ++ cg K m).toArray ++ Builtin.zeroCells K.z.cells (grownCap w (l.length + m.length) sCap K.e - (l.length + m.length))) K.e)
    rw [show w.drew.heap.size = w.heap.size from rfl] at hn
    rw [hn] at hc
    simp only [Option.some.injEq, Obj.cells.injEq] at hc
    obtain ⟨rfl, _, _⟩ := hc
    intro u hu
    rw [Array.toList_append, List.mem_append, cg_append] at hu
    rcases hu with hu | hu
    · exact cg_nob hK _ u hu
    · exact zero_nob hK _ u hu
  · exact ⟨(Fr.refl _ w).drew.alloc _ _, fun k hk e => by simp [Value.ownBlock] at e; omega⟩
 rcases hown.1.2 with ⟨hv, hl0⟩ | ⟨g, cap, cur, hv, hbg, hg, hnc, hcm, hcs, htake⟩
 · have hl : l = [] := List.eq_nil_of_length_eq_zero hl0
   have hm : 0 < m.length := List.length_pos_iff.2 (hm0 hv)
   refine grown none 0 (by rw [hv, hl0]) (by omega) ?_
   subst hl
   simpa [cg] using run_firstCells_none (P := Tryz.prog) w.drew i0.size 0 0 0
 · by_cases hroom : l.length + m.length ≤ cap
   · have hint := hown.2 g cur K.e (0, 0) (by rw [hv]; rfl) hg
     subst hv
     have hfit : l.length * K.n + (cg K m).length ≤ cur.size := by
      rw [cg_length hK, ← Nat.add_mul, hcs]
      exact Nat.mul_le_mul_right _ hroom
     have hst := run_storeCells_at Tryz.prog g (l.length * i0.size) K.e (cg K m) 0 cur w hg (by rw [hz1]; omega) (cg_one hK m)
     simp only [Nat.add_zero] at hst
     refine ⟨.slice (some ⟨g, 0, none⟩) (l.length + m.length) cap, w.setRow g (cur.toList.take (l.length * i0.size) ++ cg K m ++ cur.toList.drop (l.length * i0.size + (cg K m).length)).toArray, ?_, ⟨?_, ?_⟩, ?_⟩
     · rcases hs.kind with ⟨e', hk⟩ | hk <;> simp [Builtin.append_, run_underlying ht, sizeOf, typeInfo, hi, hs.len, hroom, hz1, hs.cells, Addr.add_lit] <;> (rw [hz1] at hst; simp at hst; simp [hst])
     · refine ⟨hlen, .inr ⟨g, cap, _, by simp, hbg, setRow_heap w g cur _ K.e _ hg, by simpa using hroom, hcm, ?_, ?_⟩⟩
       · simp only [List.size_toArray, List.length_append, List.length_take, List.length_drop, Array.length_toList, hz1]
         omega
       · rw [hz1, htake, cg_append]
         exact List.take_left' (by rw [cg_length hK])
     · intro k cur' t fz hk hc
       simp only [Value.ownBlock, Option.some.injEq] at hk
       subst hk
       rw [setRow_heap w g cur _ K.e _ hg] at hc
       simp only [Option.some.injEq, Obj.cells.injEq] at hc
       obtain ⟨rfl, _, _⟩ := hc
       intro u hu
       simp only [List.mem_append] at hu
       rcases hu with (hu | hu) | hu
       · exact hint u (List.mem_of_mem_take hu)
       · exact cg_nob hK _ u hu
       · exact hint u (List.mem_of_mem_drop hu)
     · exact ⟨⟨rfl, rfl, by rw [setRow_size]; exact Nat.le_refl _, fun k hk hs => setRow_other w g k _ (fun e => hs (.inr (by simp [Value.ownBlock, e]))), fun a _ => frozen_setRow w g _ a⟩, fun k _ e => by simpa [Value.ownBlock] using e⟩
   · refine grown (some ⟨g, 0, none⟩) cap hv (by omega) ?_
     rw [hz1]
     refine run_firstCells_some (P := Tryz.prog) w.drew K.n l.length ⟨g, 0, none⟩ l.length cap (cg K l) (cg_length hK l) ?_
     intro j u hj
     simpa using World.ownsRow.cells hown.1 (g := g) (by rw [hv]; rfl) j u hj
theorem wpList_apdG (hK : K.Ok) (w : World) {ops : Array Oper} {rest : List Oper} {o : Oper} {a : Act} {Q : Exit → Act → World → Prop}
 (hg : o.guard = none) (ht : o.type = K.t) (s x : Operand) (hop : o.op = Op.call { callee := Callee.builtin Builtin.append, args := #[s, x], argTypes := #[K.t, K.t] })
 (v : Value) (l : List α) (hs : a.eval s = v) (hown : OwnG K w v l) (xv : Value) (hx : a.eval x = xv) (m : List α) (hsrc : Src Tryz.prog K.n K.t xv m.length (cg K m) w)
 (hm0 : v = .slice none 0 0 → m ≠ []) (hb : l.length + m.length ≤ 1000000)
 (hK' : ∀ v' w', OwnG K w' v' (l ++ m) → Sp no v w v' w' → wpList Tryz.prog ops Q rest (a.put o.dst v') w') :
 wpList Tryz.prog ops Q (o :: rest) a w := by
 refine wpList_plain hg fun K2 hK2 => ?_
 obtain ⟨v', w', hrun, r1, r2⟩ := run_apdG hK w v l hown xv m hsrc hm0 hb
 unfold Oper.wp
 simp [execOp, hop, ht, resolve, invoke, builtin, hs, hx, hrun, Result.andThen]
 exact hK2 _ _ (hK' v' w' r1 r2)
theorem srcG_one (hK : K.Ok) (w : World) (x : α) : Src Tryz.prog K.n K.t (.slice (some ⟨w.heap.size, 0, none⟩) 1 1) ([x] : List α).length (cg K [x]) (w.alloc (.cells (K.f x).toArray K.e)) :=
 Src.ofSlice _ hK.und _ _ _ _ (by simp [cg, hK.len]) (fun j u hj => by
  have hj' : (K.f x)[j]? = some u := by simpa [cg] using hj
  have hb : (w.alloc (.cells (K.f x).toArray K.e)).heap[w.heap.size]? = some (.cells (K.f x).toArray K.e (0, 0)) := heap_alloc_new w _
  rw [Addr.add_lit]
  unfold World.cell?
  simp only [hb]
  simpa using hj') (cg_one hK _)
def SlG (K : El α) (w : World) (v : Value) (l : List α) : Prop :=
 ∃ ad cap, v = .slice ad l.length cap ∧ l.length ≤ cap ∧ cap ≤ maxLen ∧ ∀ (i : Nat) (x : α), l[i]? = some x → ∃ b off, ad = some ⟨b, off, none⟩ ∧
  ∀ (j : Nat) (u : Value), (K.f x)[j]? = some u → w.cell? ⟨b, off + i * K.n + j, none⟩ = some u
theorem SlG.kept {w w' : World} {v : Value} {l : List α} (h : SlG K w v l) (hf : Fr no w w') : SlG K w' v l := by
 obtain ⟨ad, cap, rfl, h1, h2, h3⟩ := h
 refine ⟨ad, cap, rfl, h1, h2, fun i x hx => ?_⟩
 obtain ⟨b, off, rfl, hc⟩ := h3 i x hx
 exact ⟨b, off, rfl, fun j u hj => hf.cell (hc j u hj) (fun f => f)⟩
theorem OwnG.sl (hK : K.Ok) {w : World} {v : Value} {l : List α} (h : OwnG K w v l) : SlG K w v l := by
 have h' := h.1
 rcases h.1.2 with ⟨rfl, h0⟩ | ⟨g, cap, cur, rfl, hb, hgg, hn, hm, hs, ht⟩
 · have : l = [] := List.eq_nil_of_length_eq_zero h0
   subst this
   exact ⟨none, 0, rfl, Nat.zero_le _, Nat.zero_le _, fun i x hx => by simp at hx⟩
 · refine ⟨_, cap, rfl, hn, hm, fun i x hx => ⟨g, 0, rfl, fun j u hj => ?_⟩⟩
   have := World.ownsRow.cells h' (g := g) rfl (i * K.n + j) _ (cg_get hK l i x hx j u hj)
   rw [Addr.add_lit] at this
   rw [Nat.zero_add]
   simpa using this
theorem SlG.take {w : World} {ad : Option Addr} {n cap k : Nat} {l : List α} (h : SlG K w (.slice ad n cap) l) (hk : k ≤ l.length) : SlG K w (.slice ad k cap) (l.take k) := by
 obtain ⟨ad', cap', e, h1, h2, h3⟩ := h
 simp only [Value.slice.injEq] at e
 obtain ⟨rfl, rfl, rfl⟩ := e
 have hl : (l.take k).length = k := by rw [List.length_take]; omega
 refine ⟨ad, cap, by rw [hl], by omega, h2, fun i x hx => h3 i x ?_⟩
 rw [List.getElem?_take] at hx
 split at hx
 · exact hx
 · simp at hx
end Go.Proofs.YtalgjpmaafooeaaGreatDoor
