/- Maps by names; a linked class while it is laid out. -/
import Derived.Test.YtalgjpmaafooeaaGreatDoorKaf
import Derived.BigRegion
namespace Go.Proofs.YtalgjpmaafooeaaGreatDoor
open Go.ChangeShapes Go.WideShapes Go.ChangeAt Go.RowKit
open H (ky Owns ky_key ky_lit ky_inj keyed)
def pairElem (v : Value) : Option (DataW Unit × List MemPlace) :=
 match v with
 | .agg cs => match cs.toList with
  | [.int .i64 a, .int .i64 b] => some (.agg [.lit (.int .i64 a), .lit (.int .i64 b)], [])
  | _ => none
 | _ => none
theorem pairElem_mk (a b : Int) : pairElem (.agg #[.int .i64 a, .int .i64 b]) = some (.agg [.lit (.int .i64 a), .lit (.int .i64 b)], []) := rfl
theorem pairElem_inv {v : Value} {z : DataW Unit × List MemPlace} (h : pairElem v = some z) : ∃ a b, v = .agg #[.int .i64 a, .int .i64 b] ∧ z = (.agg [.lit (.int .i64 a), .lit (.int .i64 b)], []) := by
 unfold pairElem at h
 split at h
 · rename_i cs
   split at h
   · rename_i a b he
     simp only [Option.some.injEq] at h
     refine ⟨a, b, ?_, h.symm⟩
     congr 1
     exact Array.ext' he
   · simp at h
 · simp at h
abbrev OwnsP (w : World) (m n : Nat) (D : DataW Unit) : Prop := w.ownsMap (H := Unit) Tryz.prog 9 pairElem m n D
def encI (n : Nat) : DataW Unit := .lit (.int .i64 (n : Int))
def encP (q : Nat × Nat) : DataW Unit := .agg [.lit (.int .i64 (q.1 : Int)), .lit (.int .i64 (q.2 : Int))]
def MapG {β : Type} (enc : β → DataW Unit) (z : β) (D : DataW Unit) (f : ByteArray → Option β) : Prop :=
 Maps.IsMap D ∧ ∀ s, Maps.has D (ky s) = (f s).isSome ∧ ∀ i, f s = some i → D.atKey (ky s) (enc z) = enc i
theorem mapG_nil {β : Type} (enc : β → DataW Unit) (z : β) : MapG enc z (.map []) (fun _ => none) := ⟨Maps.isMap_empty, fun s => ⟨rfl, fun i h => by simp at h⟩⟩
theorem mapG_put {β : Type} {enc : β → DataW Unit} {z : β} {D : DataW Unit} {f : ByteArray → Option β} (h : MapG enc z D f) (s : ByteArray) (b : β) : MapG enc z (D.put (ky s) (enc b)) (fun t => if s = t then some b else f t) := by
 refine ⟨h.1.put _ _, fun t => ?_⟩
 by_cases e : s = t
 · subst e
   refine ⟨by rw [Maps.has_put_same h.1 (ky_lit s)]; simp, fun i hi => ?_⟩
   simp only [if_true, Option.some.injEq] at hi
   subst hi
   exact Maps.atKey_put_same h.1 (ky_lit s) _ _
 · have hne : ky t ≠ ky s := fun k => e (ky_inj k).symm
   obtain ⟨h1, h2⟩ := h.2 t
   rw [Maps.has_put_other hne, Maps.atKey_put_other hne, h1]
   simp only [if_neg e]
   exact ⟨trivial, h2⟩
theorem mapG_of {D : DataW Unit} {N : List ByteArray} (h : H.MapOf D N) : MapG encI 0 D (fun s => H.ix s N) := h
theorem zero89 (w : World) : (zeroValue 136).run Tryz.prog w = .ok (.agg #[.int .i64 0, .int .i64 0]) w := by kernel_rfl
theorem lookI {w : World} {m n : Nat} {D : DataW Unit} {f : ByteArray → Option Nat} (h : Owns w m n D) (hm : MapG encI 0 D f) (s : ByteArray) (hs : s.size ≤ 1099511627776) :
 ∃ c : Int, (Instr.lookup 114 (.map (some m)) (.string s) true).run Tryz.prog w = .ok (.tuple #[.int .i64 c, .bool (f s).isSome]) w ∧ (Instr.lookup 114 (.map (some m)) (.string s) false).run Tryz.prog w = .ok (.int .i64 c) w ∧ ∀ i : Nat, f s = some i → c = (i : Int) := by
 obtain ⟨v, ps, hrun, hv⟩ := h.look_ok keyed Tryz.underlying114 (H.zero3 w) (plainElem_int Tryz.underlying3 (by decide)) (ky_key hs)
 obtain ⟨c, rfl, hc, -⟩ := plainElem_int_inv Tryz.underlying3 hv
 obtain ⟨v', ps', hrun', hv'⟩ := h.lookup keyed Tryz.underlying114 (H.zero3 w) (plainElem_int Tryz.underlying3 (by decide)) (ky_key hs)
 obtain ⟨c', rfl, hc', -⟩ := plainElem_int_inv Tryz.underlying3 hv'
 rw [(hm.2 s).1] at hrun
 have e1 := congrArg Prod.fst hc
 have e2 := congrArg Prod.fst hc'
 simp only [] at e1 e2
 rw [e1] at e2
 simp only [DataW.lit.injEq, Lit.int.injEq, true_and] at e2
 subst e2
 refine ⟨c, hrun, hrun', fun i hi => ?_⟩
 have := (hm.2 s).2 i hi
 unfold encI at this
 rw [show (((0 : Nat) : Int)) = 0 from rfl, e1] at this
 simpa using this
theorem lookP {w : World} {m n : Nat} {D : DataW Unit} {f : ByteArray → Option (Nat × Nat)} (h : OwnsP w m n D) (hm : MapG encP (0, 0) D f) (s : ByteArray) (hs : s.size ≤ 1099511627776) :
 ∃ c d : Int, (Instr.lookup 126 (.map (some m)) (.string s) true).run Tryz.prog w = .ok (.tuple #[.agg #[.int .i64 c, .int .i64 d], .bool (f s).isSome]) w ∧ (Instr.lookup 126 (.map (some m)) (.string s) false).run Tryz.prog w = .ok (.agg #[.int .i64 c, .int .i64 d]) w ∧ ∀ q : Nat × Nat, f s = some q → c = (q.1 : Int) ∧ d = (q.2 : Int) := by
 obtain ⟨v, ps, hrun, hv⟩ := h.look_ok keyed Tryz.underlying126 (zero89 w) (pairElem_mk 0 0) (ky_key hs)
 obtain ⟨c, d, rfl, hc⟩ := pairElem_inv hv
 obtain ⟨v', ps', hrun', hv'⟩ := h.lookup keyed Tryz.underlying126 (zero89 w) (pairElem_mk 0 0) (ky_key hs)
 obtain ⟨c', d', rfl, hc'⟩ := pairElem_inv hv'
 rw [(hm.2 s).1] at hrun
 have e1 := congrArg Prod.fst hc
 have e2 := congrArg Prod.fst hc'
 simp only [] at e1 e2
 rw [e1] at e2
 simp only [DataW.agg.injEq, List.cons.injEq, DataW.lit.injEq, Lit.int.injEq, true_and, and_true] at e2
 obtain ⟨rfl, rfl⟩ := e2
 refine ⟨c, d, hrun, hrun', fun q hi => ?_⟩
 have := (hm.2 s).2 q hi
 unfold encP at this
 simp only [show (((0 : Nat) : Int)) = 0 from rfl] at this
 rw [e1] at this
 simpa using this
def Turn (g f m : Nat) : Nat → Prop := fun k => k = g ∨ k = f ∨ k = m
structure Site (w1 : World) (g o : Nat) (cur : Array Value) (f m : Nat) : Prop where
 row : w1.heap[g]? = some (.cells cur 128 (0, 0))
 fits : o + 9 ≤ cur.size
 fc : cur[o + 7]? = some (.map (some f))
 mc : cur[o + 8]? = some (.map (some m))
 fm : ∃ es c, w1.heap[f]? = some (.map es c)
 mm : ∃ es c, w1.heap[m]? = some (.map es c)
 ne : f ≠ m
theorem Site.apart {w1 : World} {g o : Nat} {cur : Array Value} {f m : Nat} (h : Site w1 g o cur f m) : Apart (Turn g f m) w1 := by
 intro k hk c e hc
 obtain ⟨e1, c1, h1⟩ := h.fm
 obtain ⟨e2, c2, h2⟩ := h.mm
 rcases hk with rfl | rfl | rfl
 · rw [h.row] at hc
   simp only [Option.some.injEq, Obj.cells.injEq] at hc
   obtain ⟨_, rfl, _⟩ := hc
   decide
 · rw [h1] at hc
   simp at hc
 · rw [h2] at hc
   simp at hc
theorem Site.gf {w1 : World} {g o : Nat} {cur : Array Value} {f m : Nat} (h : Site w1 g o cur f m) : g ≠ f ∧ g ≠ m := by
 obtain ⟨e1, c1, h1⟩ := h.fm
 obtain ⟨e2, c2, h2⟩ := h.mm
 exact ⟨fun e => by rw [← e, h.row] at h1; simp at h1, fun e => by rw [← e, h.row] at h2; simp at h2⟩
structure Mid (w1 w : World) (g o : Nat) (cur0 : Array Value) (f m : Nat) (sl : List Slt) (wd : Int) (ff : ByteArray → Option Nat) (nf : Nat) (mm : ByteArray → Option (Nat × Nat)) (nm : Nat) : Prop where
 fr : Fr (Turn g f m) w1 w
 row : ∃ (cur : Array Value) (s : Sv), w.heap[g]? = some (.cells cur 128 (0, 0)) ∧ cur.size = cur0.size ∧ cur[o + 5]? = some (.slice s.a s.n s.c) ∧ cur[o + 6]? = some (.int .i64 wd) ∧ (∀ j, j ≠ o + 5 → j ≠ o + 6 → cur[j]? = cur0[j]?) ∧ OwnG elSt w (.slice s.a s.n s.c) sl ∧ NewV w1 (.slice s.a s.n s.c)
 fm : ∃ D, Owns w f nf D ∧ MapG encI 0 D ff
 mm : ∃ D, OwnsP w m nm D ∧ MapG encP (0, 0) D mm
theorem add_i64 (a b : Int) (h : -1000000000 ≤ a ∧ a ≤ 1000000000 ∧ -1000000000 ≤ b ∧ b ≤ 1000000000) (w : World) : (binOp .add 3 (.int .i64 a) (.int .i64 b)).run Tryz.prog w = .ok (.int .i64 (a + b)) w := by
 simp [go_sem]
 have : IntKind.i64.wrap (a + b) = a + b := by
  simp [IntKind.wrap, IntKind.signed, IntKind.bits]
  omega
 exact this
theorem ev_add {o : Oper} {a : Act} {w : World} (x y : Nat) (p q : Int) (h : -1000000000 ≤ p ∧ p ≤ 1000000000 ∧ -1000000000 ≤ q ∧ q ≤ 1000000000) (ho : o.op = .binOp .add 3 (.tmp x) (.tmp y) 3) (hx : a.eval (.tmp x) = .int .i64 p) (hy : a.eval (.tmp y) = .int .i64 q) : (execOp a.eval o).run Tryz.prog w = .ok (.value (.int .i64 (p + q))) w := by
 have hr := add_i64 p q h w
 unfold execOp; simp [ho, hx, hy, eqGuard, hr]
theorem ownsP_keep {S : Nat → Prop} {w w' : World} {m n : Nat} {D : DataW Unit} (h : OwnsP w m n D) (hf : Fr S w w') (hS : ¬ S m) : OwnsP w' m n D := by
 have hlt := h.lt
 obtain ⟨es, clock, hb, F, hs, hD⟩ := h
 exact ⟨es, clock, (hf.block m hlt hS).trans hb, F, hs, hD⟩
section
variable {w1 w : World} {g o : Nat} {cur0 : Array Value} {f m : Nat} {sl : List Slt} {wd : Int} {ff : ByteArray → Option Nat} {nf : Nat} {mm : ByteArray → Option (Nat × Nat)} {nm : Nat}
theorem Mid.keep (h : Mid w1 w g o cur0 f m sl wd ff nf mm nm) {w' : World} (hf : Fr no w w') : Mid w1 w' g o cur0 f m sl wd ff nf mm nm := by
 obtain ⟨cur, s, r1, r2, r3, r4, r5, r6, r7⟩ := h.row
 obtain ⟨D, d1, d2⟩ := h.fm
 obtain ⟨E, e1, e2⟩ := h.mm
 exact ⟨h.fr.trans hf (fun _ _ e => e) (fun _ _ e => e.elim), ⟨cur, s, hf.heap r1 (fun f => f), r2, r3, r4, r5, r6.keep hf, r7⟩, ⟨D, H.owns_keep d1 hf (fun f => f), d2⟩, ⟨E, ownsP_keep e1 hf (fun f => f), e2⟩⟩
theorem Mid.putF (h : Mid w1 w g o cur0 f m sl wd ff nf mm nm) (hs : Site w1 g o cur0 f m) (x : ByteArray) (hx : x.size ≤ 1099511627776) (n : Nat) (hn : n ≤ 1000000) (hnf : nf ≤ 1000000) :
 ∃ w', (Instr.mapUpdate 114 (.map (some f)) (.string x) (.int .i64 (n : Int))).run Tryz.prog w = .ok () w' ∧ Mid w1 w' g o cur0 f m sl wd (fun t => if x = t then some n else ff t) (nf + 1) mm nm ∧ Fr (fun k => k = f) w w' := by
 obtain ⟨cur, s, r1, r2, r3, r4, r5, r6, r7⟩ := h.row
 obtain ⟨D, d1, d2⟩ := h.fm
 obtain ⟨E, e1, e2⟩ := h.mm
 obtain ⟨w', hrun, o1, t1⟩ := d1.store keyed Tryz.underlying114 (by unfold maxLen; omega) (ky_key hx) (plainElem_int (a := (n : Int)) Tryz.underlying3 (WalkArith.wf_i64 (by omega)))
 have ht := H.turned_fr t1
 refine ⟨w', hrun, ⟨h.fr.trans ht (fun _ _ e => e) (fun _ _ e => .inr (.inl e)), ⟨cur, s, ht.heap r1 hs.gf.1, r2, r3, r4, r5, r6.kept ht (fun k hk e => ?_), r7⟩, ⟨_, o1, mapG_put d2 x n⟩, ⟨E, ownsP_keep e1 ht (fun e => hs.ne e.symm), e2⟩⟩, ht⟩
 obtain ⟨cu, hc⟩ := r6.tag hk
 obtain ⟨es, c, hb, _⟩ := d1
 rw [e, hb] at hc
 simp at hc
theorem Mid.putM (h : Mid w1 w g o cur0 f m sl wd ff nf mm nm) (hs : Site w1 g o cur0 f m) (x : ByteArray) (hx : x.size ≤ 1099511627776) (a b : Nat) (hnm : nm ≤ 1000000) :
 ∃ w', (Instr.mapUpdate 126 (.map (some m)) (.string x) (.agg #[.int .i64 (a : Int), .int .i64 (b : Int)])).run Tryz.prog w = .ok () w' ∧ Mid w1 w' g o cur0 f m sl wd ff nf (fun t => if x = t then some (a, b) else mm t) (nm + 1) ∧ Fr (fun k => k = m) w w' := by
 obtain ⟨cur, s, r1, r2, r3, r4, r5, r6, r7⟩ := h.row
 obtain ⟨D, d1, d2⟩ := h.fm
 obtain ⟨E, e1, e2⟩ := h.mm
 obtain ⟨w', hrun, o1, t1⟩ := e1.store keyed Tryz.underlying126 (by unfold maxLen; omega) (ky_key hx) (pairElem_mk (a : Int) (b : Int))
 have ht := H.turned_fr t1
 refine ⟨w', hrun, ⟨h.fr.trans ht (fun _ _ e => e) (fun _ _ e => .inr (.inr e)), ⟨cur, s, ht.heap r1 hs.gf.2, r2, r3, r4, r5, r6.kept ht (fun k hk e => ?_), r7⟩, ⟨D, H.owns_keep d1 ht hs.ne, d2⟩, ⟨_, o1, mapG_put e2 x (a, b)⟩⟩, ht⟩
 obtain ⟨cu, hc⟩ := r6.tag hk
 obtain ⟨es, c, hb, _⟩ := e1
 rw [e, hb] at hc
 simp at hc
theorem Mid.cells (h : Mid w1 w g o cur0 f m sl wd ff nf mm nm) (hs : Site w1 g o cur0 f m) : ∃ s : Sv, s.n = sl.length ∧ w.cell? ⟨g, o + 5, none⟩ = some (.slice s.a s.n s.c) ∧ w.cell? ⟨g, o + 6, none⟩ = some (.int .i64 wd) ∧ w.cell? ⟨g, o + 7, none⟩ = some (.map (some f)) ∧ w.cell? ⟨g, o + 8, none⟩ = some (.map (some m)) ∧ OwnG elSt w (.slice s.a s.n s.c) sl ∧ NewV w1 (.slice s.a s.n s.c) ∧ ∀ j, w.frozen? ⟨g, j, none⟩ = false := by
 obtain ⟨cur, s, r1, r2, r3, r4, r5, r6, r7⟩ := h.row
 obtain ⟨q, c, e⟩ := r6.form
 simp only [Value.slice.injEq] at e
 refine ⟨s, e.2.1, by rw [cell_at r1]; exact r3, by rw [cell_at r1]; exact r4, ?_, ?_, r6, r7, fun j => frozen_at r1⟩
 · rw [cell_at r1, r5 _ (by omega) (by omega)]; exact hs.fc
 · rw [cell_at r1, r5 _ (by omega) (by omega)]; exact hs.mc
theorem Mid.grow (h : Mid w1 w g o cur0 f m sl wd ff nf mm nm) (hs : Site w1 g o cur0 f m) {q : Option Addr} {n c : Nat} (hc : w.cell? ⟨g, o + 5, none⟩ = some (.slice q n c)) {wa w2 : World} {v' : Value} {l : List Slt} (ha : Fr no w wa) (o2 : OwnG elSt w2 v' l) (s2 : Sp no (.slice q n c) wa v' w2) :
 ∃ w3, (Instr.storeAt 125 (.pointer (some ⟨g, o + 5, none⟩)) v').run Tryz.prog w2 = .ok () w3 ∧ Mid w1 w3 g o cur0 f m l wd ff nf mm nm ∧ Fr (fun k => (Value.slice q n c).ownBlock = some k) w w2 ∧ Fr (fun k => k = g ∨ (Value.slice q n c).ownBlock = some k) w w3 ∧ ∀ k cu e, w.heap[k]? = some (.cells cu e (0, 0)) → e ≠ 188 → (Value.slice q n c).ownBlock ≠ some k := by
 have ha' := h.keep ha
 obtain ⟨cur, s, r1, r2, r3, r4, r5, r6, r7⟩ := ha'.row
 obtain ⟨D, d1, d2⟩ := ha'.fm
 obtain ⟨E, e1, e2⟩ := ha'.mm
 have hca := ha.cell hc (fun f => f)
 rw [cell_at r1, r3] at hca
 simp only [Option.some.injEq, Value.slice.injEq] at hca
 obtain ⟨x1, x2, x3⟩ := hca
 rw [x1, x2, x3] at r3 r6 r7
 have sF : Fr (fun k => (Value.slice q n c).ownBlock = some k) wa w2 := s2.1.mono (fun i _ e => e.elim (fun f => f.elim) id)
 have tagn : ∀ k, (Value.slice q n c).ownBlock = some k → ∃ cu, wa.heap[k]? = some (.cells cu 188 (0, 0)) := fun k hk => r6.tag hk
 have ng : (Value.slice q n c).ownBlock ≠ some g := fun e => by
  obtain ⟨cu, hcu⟩ := tagn g e
  rw [r1] at hcu
  simp at hcu
 have nf' : (Value.slice q n c).ownBlock ≠ some f := fun e => by
  obtain ⟨cu, hcu⟩ := tagn f e
  obtain ⟨es, cl, hb, _⟩ := d1
  rw [hb] at hcu
  simp at hcu
 have nm' : (Value.slice q n c).ownBlock ≠ some m := fun e => by
  obtain ⟨cu, hcu⟩ := tagn m e
  obtain ⟨es, cl, hb, _⟩ := e1
  rw [hb] at hcu
  simp at hcu
 have g2 := sF.heap r1 ng
 obtain ⟨q2, c2, hv⟩ := o2.form
 have hg5 : o + 5 < cur.size := by rw [r2]; have := hs.fits; omega
 have hst : (Instr.storeAt 125 (.pointer (some ⟨g, o + 5, none⟩)) v').run Tryz.prog w2 = .ok () (w2.setCell ⟨g, o + 5, none⟩ v') := by
  have hc2 : w2.cell? ⟨g, o + 5, none⟩ = some (.slice q n c) := by rw [cell_at g2]; exact r3
  have hz2 : w2.frozen? ⟨g, o + 5, none⟩ = false := frozen_at g2
  rw [hv]
  simp [go_sem, hc2, hz2]
 have fs : Fr (fun k => k = g) w2 (w2.setCell ⟨g, o + 5, none⟩ v') := (Fr.refl (fun k => k = g) w2).setCell (p := ⟨g, o + 5, none⟩) (fun _ => rfl) v'
 have f12 : Fr (Turn g f m) w1 w2 := ha'.fr.trans sF (fun _ _ e => e) (fun i hi e => by have := r7 i e; omega)
 have f13 : Fr (Turn g f m) w1 (w2.setCell ⟨g, o + 5, none⟩ v') := f12.trans fs (fun _ _ e => e) (fun _ _ e => .inl e)
 have nv : NewV w1 v' := fun k hk => by
  by_cases hlt : k < wa.heap.size
  · exact r7 k (s2.2 k hlt hk)
  · have := ha'.fr.size
    omega
 have sw : Fr (fun k => (Value.slice q n c).ownBlock = some k) w w2 := ha.trans sF (fun _ _ e => e.elim) (fun _ _ e => e)
 have ngv : ∀ k, v'.ownBlock = some k → ¬ k = g := fun k hk e => by
  obtain ⟨cu, hcu⟩ := o2.tag hk
  rw [e, g2] at hcu
  simp [elSt] at hcu
 have K := o2.kept fs ngv
 rw [hv] at nv
 refine ⟨_, hst, ⟨f13, ⟨cur.setIfInBounds (o + 5) v', ⟨q2, _, c2⟩, set_at g2, by simp [r2], ?_, ?_, fun j h5 h6 => ?_, ?_, nv⟩, ⟨D, H.owns_keep (H.owns_keep d1 sF nf') fs (fun e => hs.gf.1 e.symm), d2⟩, ⟨E, ownsP_keep (ownsP_keep e1 sF nm') fs (fun e => hs.gf.2 e.symm), e2⟩⟩, sw, sw.trans fs (fun _ _ e => .inr e) (fun _ _ e => .inl e), fun k cu e hcu he hk => ?_⟩
 · rw [Array.getElem?_setIfInBounds, if_pos rfl, if_pos hg5, hv]
 · rw [Array.getElem?_setIfInBounds, if_neg (by omega)]
   exact r4
 · rw [Array.getElem?_setIfInBounds, if_neg (Ne.symm h5)]
   exact r5 j h5 h6
 · show OwnG elSt _ (.slice q2 l.length c2) l
   rw [← hv]
   exact K
 · obtain ⟨c', hc'⟩ := tagn k hk
   rw [ha.heap hcu (fun f => f)] at hc'
   simp only [Option.some.injEq, Obj.cells.injEq] at hc'
   exact he hc'.2.1
theorem Mid.more (h : Mid w1 w g o cur0 f m sl wd ff nf mm nm) (hs : Site w1 g o cur0 f m) (n : Int) :
 (Instr.storeAt 3 (.pointer (some ⟨g, o + 6, none⟩)) (.int .i64 n)).run Tryz.prog w = .ok () (w.setCell ⟨g, o + 6, none⟩ (.int .i64 n)) ∧ Mid w1 (w.setCell ⟨g, o + 6, none⟩ (.int .i64 n)) g o cur0 f m sl n ff nf mm nm := by
 obtain ⟨cur, s, r1, r2, r3, r4, r5, r6, r7⟩ := h.row
 obtain ⟨D, d1, d2⟩ := h.fm
 obtain ⟨E, e1, e2⟩ := h.mm
 have fs : Fr (fun k => k = g) w (w.setCell ⟨g, o + 6, none⟩ (.int .i64 n)) := (Fr.refl (fun k => k = g) w).setCell (p := ⟨g, o + 6, none⟩) (fun _ => rfl) _
 have hc : w.cell? ⟨g, o + 6, none⟩ = some (.int .i64 wd) := by rw [cell_at r1]; exact r4
 have hz : w.frozen? ⟨g, o + 6, none⟩ = false := frozen_at r1
 refine ⟨by simp [go_sem, hc, hz], h.fr.trans fs (fun _ _ e => e) (fun _ _ e => .inl e), ⟨cur.setIfInBounds (o + 6) (.int .i64 n), s, set_at r1, by simp [r2], ?_, ?_, fun j h5 h6 => ?_, r6.kept fs (fun k hk e => ?_), r7⟩, ⟨D, H.owns_keep d1 fs (fun e => hs.gf.1 e.symm), d2⟩, ⟨E, ownsP_keep e1 fs (fun e => hs.gf.2 e.symm), e2⟩⟩
 · rw [Array.getElem?_setIfInBounds, if_neg (by omega)]
   exact r3
 · rw [Array.getElem?_setIfInBounds, if_pos rfl, if_pos (by rw [r2]; have := hs.fits; omega)]
 · rw [Array.getElem?_setIfInBounds, if_neg (Ne.symm h6)]
   exact r5 j h5 h6
 · obtain ⟨cu, hcu⟩ := r6.tag hk
   rw [e, r1] at hcu
   simp [elSt] at hcu
end
end Go.Proofs.YtalgjpmaafooeaaGreatDoor
/- What objects take of a class. -/
namespace Go.Proofs.YtalgjpmaafooeaaGreatDoor
open Go.ChangeShapes Go.WideShapes Go.ChangeAt Go.RowKit
open H (words words_any)
def MidY (w1 w : World) (g o : Nat) (cur0 : Array Value) (f m : Nat) (y : Li) : Prop := Mid w1 w g o cur0 f m y.slots y.words y.fm y.slots.length y.mm y.nm
theorem words_bound (t : Ty) : 0 ≤ words t ∧ words t ≤ 2 := by
 unfold words
 split
 · omega
 · split <;> omega
theorem takeFs_drop (cn : ByteArray) (y : Li) (l : List Fd) (k : Nat) (x : Fd) (h : l[k]? = some x) : takeFs cn y (l.drop k) = takeFs cn (takeF cn y x) (l.drop (k + 1)) := by
 obtain ⟨hk, e⟩ := List.getElem?_eq_some_iff.1 h
 rw [← List.getElem_cons_drop hk, e]
 rfl
theorem takeMs_drop (num a : Nat) (y : Li) (l : List Mt) (k : Nat) (x : Mt) (h : l[k]? = some x) : takeMs num a y (l.drop k) = takeMs num (a + 1) (takeM num a y x) (l.drop (k + 1)) := by
 obtain ⟨hk, e⟩ := List.getElem?_eq_some_iff.1 h
 rw [← List.getElem_cons_drop hk, e]
 rfl
set_option maxRecDepth 100000 in
set_option maxHeartbeats 4000000 in
theorem take_any (w1 w : World) (g o : Nat) (cur0 : Array Value) (f m : Nat) (hs : Site w1 g o cur0 f m) (y : Li) (h : MidY w1 w g o cur0 f m y) (num : Nat) (so : Ks) (co : Cl) (hc : ClOwn w1 so co) (fit : FitC co)
 (b1 : co.fields.length ≤ 1000) (b2 : co.methods.length ≤ 1000) (b3 : y.slots.length ≤ 100000) (b4 : 0 ≤ y.words ∧ y.words ≤ 200000) (b5 : y.nm ≤ 100000) :
 Calls Tryz.prog 85 #[.pointer (some ⟨g, o, none⟩), .int .i64 (num : Int), ksV so] w fun e w' => e = .returned (.tuple #[]) ∧ MidY w1 w' g o cur0 f m (takeC y num co) := by
 obtain ⟨sn, ss, sp, ⟨fa, fn, fc⟩, ⟨ma, mn, mc⟩⟩ := so
 have hN := hc.name
 simp only [] at hN
 subst hN
 unfold ksV
 simp only []
 have hfn : fn = co.fields.length := by
  obtain ⟨q, c, e⟩ := hc.f.form
  simp only [Value.slice.injEq] at e
  exact e.2.1
 have hmn : mn = co.methods.length := by
  obtain ⟨ls, hl1, hl2, _⟩ := hc.m
  obtain ⟨q, c, e⟩ := hl1.form
  simp only [Value.slice.injEq] at e
  rw [← hl2]
  exact e.2.1
 subst hfn hmn
 have HS : Hid (Site w1 g o cur0 f m) := hs
 have HC : Hid (∀ x, Fr (Turn g f m) w1 x → ClOwn x ⟨co.name, ss, sp, ⟨fa, co.fields.length, fc⟩, ⟨ma, co.methods.length, mc⟩⟩ co) := fun x fx => hc.kept fx hs.apart
 have G0 : Fr no w (w.alloc (.cells #[.string co.name, .string ss, .slice sp.a sp.n sp.c, .slice fa co.fields.length fc, .slice ma co.methods.length mc] 51)) := (Fr.refl no w).alloc _ _
 have E0 : (w.alloc (.cells #[.string co.name, .string ss, .slice sp.a sp.n sp.c, .slice fa co.fields.length fc, .slice ma co.methods.length mc] 51)).heap[w.heap.size]? = some (.cells #[.string co.name, .string ss, .slice sp.a sp.n sp.c, .slice fa co.fields.length fc, .slice ma co.methods.length mc] 51 (0, 0)) := heap_alloc_new w _
 have M0 : MidY w1 (w.alloc (.cells #[.string co.name, .string ss, .slice sp.a sp.n sp.c, .slice fa co.fields.length fc, .slice ma co.methods.length mc] 51)) g o cur0 f m y := h.keep G0
 obtain ⟨a0, a1, a2, a3, a4⟩ := box5 E0
 have HW : Hid (w1.heap.size ≤ w.heap.size) := h.fr.size
 have HFit : Hid (FitC co) := fit
 have HE : Hid (_ ∧ _) := ⟨E0, M0⟩
 have hmxf : fc ≤ maxLen := by
  obtain ⟨ad, cap, e, -, hm, -⟩ := hc.f.sl okFd
  simp only [Value.slice.injEq] at e
  omega
 clear hs hc h fit E0 M0 G0
 generalize hnf : co.fields.length = nf at *
 generalize hnm : co.methods.length = nm at *
 go_enter Tryz.func85, Tryz.ntmps85
 go_wp2_with fail
 generalize hW0 : w.alloc (.cells #[.string co.name, .string ss, .slice sp.a sp.n sp.c, .slice fa nf fc, .slice ma nm mc] 51) = W0 at *
 clear a0 a1 a2 a3 a4
 go_loopw [13] (fun i wr => ∃ (k : Nat) (yk : Li), i = .int .i64 (k : Int) ∧ k ≤ nf ∧ wr.heap[w.heap.size]? = some (.cells #[.string co.name, .string ss, .slice sp.a sp.n sp.c, .slice fa nf fc, .slice ma nm mc] 51 (0, 0)) ∧ MidY w1 wr g o cur0 f m yk ∧
  takeFs co.name y co.fields = takeFs co.name yk (co.fields.drop k) ∧ yk.slots.length = y.slots.length + k ∧ (0 ≤ yk.words ∧ yk.words ≤ y.words + 2 * k) ∧ yk.nm = y.nm) (fun i _ => nf - (intOf i).toNat)
 case atStart => exact ⟨0, y, rfl, Nat.zero_le _, HE.out.1, HE.out.2, rfl, rfl, ⟨b4.1, by omega⟩, rfl⟩
 case round =>
  obtain ⟨k, yk, rfl, hk, r1, r2, r3, r4, r5, r6⟩ := hrel
  by_cases hlt : k < nf
  · have hki : (k : Int) < (nf : Int) := by omega
    obtain ⟨x, hx⟩ : ∃ x, co.fields[k]? = some x := ⟨_, List.getElem?_eq_getElem (by omega)⟩
    have FO := (HC.out wr r2.fr).f
    simp only [] at FO
    obtain ⟨fg, rfl⟩ := FO.some_of (fun e => by rw [e] at hx; simp at hx)
    have d : ∀ j u, (fdC x)[j]? = some u → wr.cell? ⟨fg, k * 4 + j, none⟩ = some u := fun j u hj => FO.cell okFd hx hj
    have d0 := d 0 _ rfl
    have d1 := d 1 _ rfl
    have d2 := d 2 _ rfl
    have d3 := d 3 _ rfl
    rw [Nat.add_zero] at d0
    have fitx := HFit.out.fields x (List.mem_of_getElem? hx)
    have HX : Hid (co.fields[k]? = some x) := hx
    have hb3 : yk.slots.length ≤ 1000000 := by omega
    have hb4 : 0 ≤ yk.words ∧ yk.words ≤ 300000 := by omega
    have HB3 : Hid (yk.slots.length ≤ 200000) := by show _ ≤ _; omega
    have HK : Hid (_ ∧ _ ∧ _ ∧ _ ∧ _ ∧ _) := ⟨r1, r2, r3, r4, r5, r6⟩
    have G1 : Fr no wr (wr.alloc (.cells #[.string x.name, .int .i64 x.ty.k, .string x.ty.c, .bool x.vol] 109)) := (Fr.refl no wr).alloc _ _
    have E1 : (wr.alloc (.cells #[.string x.name, .int .i64 x.ty.k, .string x.ty.c, .bool x.vol] 109)).heap[wr.heap.size]? = some (.cells #[.string x.name, .int .i64 x.ty.k, .string x.ty.c, .bool x.vol] 109 (0, 0)) := heap_alloc_new wr _
    have A1 := G1.heap r1 (fun f => f)
    have M1 : MidY w1 _ g o cur0 f m yk := r2.keep G1
    have M1d := M1.keep (Fr.refl no _).drew
    obtain ⟨s1, hs1, c5, c6, c7, c8, own1, new1, fz1⟩ := M1.cells HS.out
    obtain ⟨w2, hrun2, M2, F2⟩ := M1d.putF HS.out x.name fitx.1 yk.slots.length hb3 hb3
    have e10 : (wr.alloc (.cells #[.string x.name, .int .i64 x.ty.k, .string x.ty.c, .bool x.vol] 109)).cell? ⟨wr.heap.size, 0, none⟩ = some (.string x.name) := by rw [cell_at E1]; rfl
    have nfq : ∀ (k : Nat) (cu : Array Value) (e : TypeId), (wr.alloc (.cells #[.string x.name, .int .i64 x.ty.k, .string x.ty.c, .bool x.vol] 109)).heap[k]? = some (.cells cu e (0, 0)) → k ≠ f := fun k cu e hk he => by
     obtain ⟨D, ⟨es, cl, hb, _⟩, _⟩ := M1.fm
     rw [he, hb] at hk
     simp at hk
    have E2 : w2.heap[wr.heap.size]? = some (.cells #[.string x.name, .int .i64 x.ty.k, .string x.ty.c, .bool x.vol] 109 (0, 0)) := F2.heap E1 (nfq _ _ _ E1)
    have A2 := F2.heap A1 (nfq _ _ _ A1)
    rw [hs1] at c5
    have H2 : Hid (_ ∧ _ ∧ _) := ⟨E2, A2, M2⟩
    clear r1 r2 r3 r4 r5 r6 FO d hx M1 M1d own1 new1 fz1 A1 G1 F2 E2 A2 M2 nfq E1 hs1
    go_wp2_with fail
    go_region
    go_wp2_with fail
    obtain ⟨E2, A2, M2⟩ := H2.out
    clear c5 c6 c7 c8 e10 d0 d1 d2 d3
    obtain ⟨s2, hs2, c5, c6, c7, c8, own2, new2, fz2⟩ := M2.cells HS.out
    obtain ⟨qa, qn, qc⟩ := s2
    simp only [] at hs2 c5 own2 new2
    subst hs2
    have HWA : Hid (Fr no w2 (w2.drew.alloc (.cells #[.string co.name, .string x.name, .int .i64 x.ty.k, .string x.ty.c, .bool x.vol, .int .i64 yk.words] 188))) := (Fr.refl no w2).drew.alloc _ _
    obtain ⟨v3, w3, hrun3, o3, s3⟩ := run_apdG okSt (w2.drew.alloc (.cells #[.string co.name, .string x.name, .int .i64 x.ty.k, .string x.ty.c, .bool x.vol, .int .i64 yk.words] 188)) (.slice qa yk.slots.length qc) yk.slots (own2.keep HWA.out) (.slice (some ⟨w2.heap.size, 0, none⟩) 1 1) [⟨co.name, x, yk.words⟩] (srcG_one okSt w2.drew ⟨co.name, x, yk.words⟩) (by simp) (by simp only [List.length_singleton]; have := HB3.out; omega)
    obtain ⟨w4, hst4, M4, F23, F24, hne⟩ := M2.grow HS.out c5 HWA.out o3 s3
    have KS : Hid (∀ w', Fr no w2 w' → w'.heap[wr.heap.size]? = some (.cells #[.string x.name, .int .i64 x.ty.k, .string x.ty.c, .bool x.vol] 109 (0, 0)) ∧ w'.heap[w.heap.size]? = some (.cells #[.string co.name, .string ss, .slice sp.a sp.n sp.c, .slice (some ⟨fg, 0, none⟩) nf fc, .slice ma nm mc] 51 (0, 0)) ∧ w'.cell? ⟨g, o + 5, none⟩ = some (.slice qa yk.slots.length qc) ∧ w'.cell? ⟨g, o + 6, none⟩ = some (.int .i64 yk.words)) := fun w' hf => ⟨hf.heap E2 (fun f => f), hf.heap A2 (fun f => f), hf.cell c5 (fun f => f), hf.cell c6 (fun f => f)⟩
    have hgt : ∃ cu, w2.heap[g]? = some (.cells cu 128 (0, 0)) := by
     obtain ⟨cu, s, h1, _⟩ := M2.row
     exact ⟨cu, h1⟩
    obtain ⟨cug, hcug⟩ := hgt
    have S3 : Hid (w3.heap[wr.heap.size]? = some (.cells #[.string x.name, .int .i64 x.ty.k, .string x.ty.c, .bool x.vol] 109 (0, 0)) ∧ w3.heap[w.heap.size]? = some (.cells #[.string co.name, .string ss, .slice sp.a sp.n sp.c, .slice (some ⟨fg, 0, none⟩) nf fc, .slice ma nm mc] 51 (0, 0)) ∧ w3.cell? ⟨g, o + 5, none⟩ = some (.slice qa yk.slots.length qc) ∧ w3.cell? ⟨g, o + 6, none⟩ = some (.int .i64 yk.words)) :=
     ⟨F23.heap E2 (hne _ _ _ E2 (by decide)), F23.heap A2 (hne _ _ _ A2 (by decide)), F23.cell c5 (hne _ _ _ hcug (by decide)), F23.cell c6 (hne _ _ _ hcug (by decide))⟩
    have E4 : w4.heap[wr.heap.size]? = some (.cells #[.string x.name, .int .i64 x.ty.k, .string x.ty.c, .bool x.vol] 109 (0, 0)) := F24.heap E2 (fun e => e.elim (fun e => by rw [e, hcug] at E2; simp at E2) (hne _ _ _ E2 (by decide)))
    have A4 : w4.heap[w.heap.size]? = some (.cells #[.string co.name, .string ss, .slice sp.a sp.n sp.c, .slice (some ⟨fg, 0, none⟩) nf fc, .slice ma nm mc] 51 (0, 0)) := F24.heap A2 (fun e => e.elim (fun e => by rw [e, hcug] at A2; simp at A2) (hne _ _ _ A2 (by decide)))
    have H4 : Hid (_ ∧ _ ∧ _) := ⟨E4, A4, M4⟩
    have HS0 : Hid (_) := KS.out _ (Fr.refl no w2).drew
    obtain ⟨qv, cv, hv3⟩ := o3.form
    clear E2 A2 M2 c7 c8 own2 new2 fz2 E4 A4 M4 F23 F24 hne hcug o3 s3 hrun2
    refine late_begin (S := fun w' => w'.heap[wr.heap.size]? = some (.cells #[.string x.name, .int .i64 x.ty.k, .string x.ty.c, .bool x.vol] 109 (0, 0)) ∧ w'.heap[w.heap.size]? = some (.cells #[.string co.name, .string ss, .slice sp.a sp.n sp.c, .slice (some ⟨fg, 0, none⟩) nf fc, .slice ma nm mc] 51 (0, 0)) ∧ w'.cell? ⟨g, o + 5, none⟩ = some (.slice qa yk.slots.length qc) ∧ w'.cell? ⟨g, o + 6, none⟩ = some (.int .i64 yk.words)) (g := 17) (by kernel_rfl) ?_
    refine late_pure 0 (ptr g o) rfl (by kernel_rfl) (by kernel_rfl) (by kernel_rfl) (fun _ _ _ h => h) (by decide) (yields rfl (fun _ _ => ev_move 0 _ rfl (by kernel_rfl))) (fun _ => HS0.out) ?_
    refine late_pure 1 (ptr g o) rfl (by kernel_rfl) (by kernel_rfl) (by kernel_rfl) (fun _ _ _ h => h) (by decide) (yields rfl (fun _ _ => ev_move 0 _ rfl (by kernel_rfl))) (fun _ => HS0.out) ?_
    refine late_pure 2 (ptr g o) rfl (by kernel_rfl) (by kernel_rfl) (by kernel_rfl) (fun _ _ _ h => h) (by decide) (yields rfl (fun _ _ => ev_nil 29 ⟨g, o, none⟩ rfl (by kernel_rfl))) (fun _ => HS0.out) ?_
    refine late_pure 3 (.pointer (some ⟨g, o + 5, none⟩)) rfl (by kernel_rfl) (by kernel_rfl) (by kernel_rfl) (fun _ _ _ h => h) (by decide) (yields rfl (fun _ _ => ev_field 128 30 1 (ptr g o) _ rfl (by kernel_rfl) (by kernel_rfl))) (fun _ => HS0.out) ?_
    refine late_take 4 (.slice qa yk.slots.length qc) rfl (by kernel_rfl) (by kernel_rfl) (by kernel_rfl) (fun _ _ _ h => h) (waits_of (by kernel_rfl)) (by decide) (by kernel_rfl) (yields rfl (fun w' hS => ev_load 125 31 (.pointer (some ⟨g, o + 5, none⟩)) _ rfl (by kernel_rfl) (by simp [go_sem, hS.2.2.1]))) HS0.out ?_
    refine late_pure 5 (ptr w.heap.size 0) rfl (by kernel_rfl) (by kernel_rfl) (by kernel_rfl) (fun _ _ _ h => h) (by decide) (yields rfl (fun _ _ => ev_field 51 5 0 (ptr w.heap.size 0) _ rfl (by kernel_rfl) (by kernel_rfl))) (fun _ => HS0.out) ?_
    refine late_take 6 (.string co.name) rfl (by kernel_rfl) (by kernel_rfl) (by kernel_rfl) (fun _ _ _ h => h) (waits_of (by kernel_rfl)) (by decide) (by kernel_rfl) (yields rfl (fun w' hS => ev_load 9 33 (ptr w.heap.size 0) _ rfl (by kernel_rfl) (by simp [go_sem, (box5 hS.2.1).1]))) HS0.out ?_
    refine late_take 7 (.agg #[.string x.name, .int .i64 x.ty.k, .string x.ty.c, .bool x.vol]) rfl (by kernel_rfl) (by kernel_rfl) (by kernel_rfl) (fun _ _ _ h => h) (waits_of (by kernel_rfl)) (by decide) (by kernel_rfl) (yields rfl (fun w' hS => ev_load 109 7 (ptr wr.heap.size 0) _ rfl (by kernel_rfl) (load_row w' _ 109 _ _ hS.1 Tryz.underlying109 rfl (by kernel_rfl)))) HS0.out ?_
    refine late_pure 8 (ptr g o) rfl (by kernel_rfl) (by kernel_rfl) (by kernel_rfl) (fun _ _ _ h => h) (by decide) (yields rfl (fun _ _ => ev_move 0 _ rfl (by kernel_rfl))) (fun _ => HS0.out) ?_
    refine late_pure 9 (ptr g o) rfl (by kernel_rfl) (by kernel_rfl) (by kernel_rfl) (fun _ _ _ h => h) (by decide) (yields rfl (fun _ _ => ev_nil 36 ⟨g, o, none⟩ rfl (by kernel_rfl))) (fun _ => HS0.out) ?_
    refine late_pure 10 (.pointer (some ⟨g, o + 6, none⟩)) rfl (by kernel_rfl) (by kernel_rfl) (by kernel_rfl) (fun _ _ _ h => h) (by decide) (yields rfl (fun _ _ => ev_field 128 37 2 (ptr g o) _ rfl (by kernel_rfl) (by kernel_rfl))) (fun _ => HS0.out) ?_
    refine late_take 11 (.int .i64 yk.words) rfl (by kernel_rfl) (by kernel_rfl) (by kernel_rfl) (fun _ _ _ h => h) (waits_of (by kernel_rfl)) (by decide) (by kernel_rfl) (yields rfl (fun w' hS => ev_load 3 38 (.pointer (some ⟨g, o + 6, none⟩)) _ rfl (by kernel_rfl) (by simp [go_sem, hS.2.2.2]))) HS0.out ?_
    refine late_pure 12 (.agg #[.string co.name, .string x.name, .int .i64 x.ty.k, .string x.ty.c, .bool x.vol, .int .i64 yk.words]) rfl (by kernel_rfl) (by kernel_rfl) (by kernel_rfl) (fun _ _ _ h => h) (by decide) (yields rfl (fun _ _ => by kernel_rfl)) (fun _ => HS0.out) ?_
    refine late_all [13] (by kernel_rfl) (by simp) (fun j hj => ?_)
    simp only [List.mem_singleton] at hj
    subst hj
    refine late_op (v := .slice (some ⟨w2.heap.size, 0, none⟩) 1 1) (w' := w2.drew.alloc (.cells #[.string co.name, .string x.name, .int .i64 x.ty.k, .string x.ty.c, .bool x.vol, .int .i64 yk.words] 188)) rfl rfl (by kernel_rfl) ⟨fun _ => KS.out _ HWA.out, ?_⟩
    refine late_all [14] (by kernel_rfl) (by simp) (fun j hj => ?_)
    simp only [List.mem_singleton] at hj
    subst hj
    refine late_op rfl rfl (ev_append 125 32 41 _ _ _ _ rfl rfl (by kernel_rfl) (by kernel_rfl) hrun3) ⟨fun _ => S3.out, ?_⟩
    refine late_pure 15 (ptr g o) rfl (by kernel_rfl) (by kernel_rfl) (by kernel_rfl) (fun _ _ _ h => h) (by decide) (yields rfl (fun _ _ => ev_nil 28 ⟨g, o, none⟩ rfl (by kernel_rfl))) (fun _ => S3.out) ?_
    refine late_pure 16 (.pointer (some ⟨g, o + 5, none⟩)) rfl (by kernel_rfl) (by kernel_rfl) (by kernel_rfl) (fun _ _ _ h => h) (by decide) (yields rfl (fun _ _ => ev_field 128 43 1 (ptr g o) _ rfl (by kernel_rfl) (by kernel_rfl))) (fun _ => S3.out) ?_
    refine late_all [17] (by kernel_rfl) (by simp) (fun j hj => ?_)
    simp only [List.mem_singleton] at hj
    subst hj
    refine late_skip rfl rfl (ev_store 125 44 42 _ _ _ rfl (by kernel_rfl) (by kernel_rfl) hst4) ⟨(fun h => Bool.noConfusion (show true = false from h)), ?_⟩
    refine late_done (by kernel_rfl) ?_
    go_wp2_with fail
    obtain ⟨E4, A4, M4⟩ := H4.out
    clear c5 c6 HS0 KS S3 hrun3 hst4 hv3 HWA H4 H2
    obtain ⟨s4, hs4, -, c6, -, -, -, -, -⟩ := M4.cells HS.out
    have W := words_any w4.drew x.ty
    have KS : Hid (∀ w', Fr no w4 w' → w'.heap[wr.heap.size]? = some (.cells #[.string x.name, .int .i64 x.ty.k, .string x.ty.c, .bool x.vol] 109 (0, 0)) ∧ w'.cell? ⟨g, o + 6, none⟩ = some (.int .i64 yk.words)) := fun w' hf => ⟨hf.heap E4 (fun f => f), hf.cell c6 (fun f => f)⟩
    have HS0 : Hid (_) := KS.out _ (Fr.refl no w4).drew
    have hwb := words_bound x.ty
    have H5 : Hid (_ ∧ _ ∧ _) := ⟨E4, A4, M4⟩
    clear E4 A4 M4 c6 hs4
    unfold tyV at W
    refine late_begin (S := fun w' => w'.heap[wr.heap.size]? = some (.cells #[.string x.name, .int .i64 x.ty.k, .string x.ty.c, .bool x.vol] 109 (0, 0)) ∧ w'.cell? ⟨g, o + 6, none⟩ = some (.int .i64 yk.words)) (g := 10) (by kernel_rfl) ?_
    refine late_pure 0 (ptr g o) rfl (by kernel_rfl) (by kernel_rfl) (by kernel_rfl) (fun _ _ _ h => h) (by decide) (yields rfl (fun _ _ => ev_move 0 _ rfl (by kernel_rfl))) (fun _ => HS0.out) ?_
    refine late_pure 1 (ptr g o) rfl (by kernel_rfl) (by kernel_rfl) (by kernel_rfl) (fun _ _ _ h => h) (by decide) (yields rfl (fun _ _ => ev_nil 45 ⟨g, o, none⟩ rfl (by kernel_rfl))) (fun _ => HS0.out) ?_
    refine late_pure 2 (.pointer (some ⟨g, o + 6, none⟩)) rfl (by kernel_rfl) (by kernel_rfl) (by kernel_rfl) (fun _ _ _ h => h) (by decide) (yields rfl (fun _ _ => ev_field 128 46 2 (ptr g o) _ rfl (by kernel_rfl) (by kernel_rfl))) (fun _ => HS0.out) ?_
    refine late_take 3 (.int .i64 yk.words) rfl (by kernel_rfl) (by kernel_rfl) (by kernel_rfl) (fun _ _ _ h => h) (waits_of (by kernel_rfl)) (by decide) (by kernel_rfl) (yields rfl (fun w' hS => ev_load 3 47 (.pointer (some ⟨g, o + 6, none⟩)) _ rfl (by kernel_rfl) (by simp [go_sem, hS.2]))) HS0.out ?_
    refine late_pure 4 (ptr wr.heap.size 1) rfl (by kernel_rfl) (by kernel_rfl) (by kernel_rfl) (fun _ _ _ h => h) (by decide) (yields rfl (fun _ _ => ev_field 109 7 1 (ptr wr.heap.size 0) _ rfl (by kernel_rfl) (by kernel_rfl))) (fun _ => HS0.out) ?_
    refine late_take 5 (.agg #[.int .i64 x.ty.k, .string x.ty.c]) rfl (by kernel_rfl) (by kernel_rfl) (by kernel_rfl) (fun _ _ _ h => h) (waits_of (by kernel_rfl)) (by decide) (by kernel_rfl) (yields rfl (fun w' hS => ev_load 44 49 (ptr wr.heap.size 1) _ rfl (by kernel_rfl) (load_at w' _ 1 44 109 [.int .i64 x.ty.k, .string x.ty.c] _ _ hS.1 (fun j v hv => by match j, hv with | 0, hv => exact hv | 1, hv => exact hv | n + 2, hv => simp at hv) Tryz.underlying44 rfl (by kernel_rfl)))) HS0.out ?_
    refine late_all [6] (by kernel_rfl) (by simp) (fun j hj => ?_)
    simp only [List.mem_singleton] at hj
    subst hj
    refine late_call (f := 107) rfl rfl (by kernel_rfl) (R := fun v w' => v = .int .i64 (words x.ty) ∧ Fr no w4.drew w') (W.mono (fun e w' ⟨h1, h2⟩ => ⟨_, h1, rfl, h2⟩)) (fun v w5 hv => ?_)
    obtain ⟨rfl, f5⟩ := hv
    have g5 : Fr no w4 w5 := (Fr.refl no w4).drew.new f5 (fun _ _ f => f)
    have M5 := H5.out.2.2.keep g5
    obtain ⟨hst6, M6⟩ := M5.more HS.out (yk.words + words x.ty)
    refine ⟨fun _ => KS.out _ g5, ?_⟩
    refine late_pure 7 (.int .i64 (yk.words + words x.ty)) rfl (by kernel_rfl) (by kernel_rfl) (by kernel_rfl) (fun _ _ _ h => h) (by decide) (yields rfl (fun _ _ => ev_add 48 51 yk.words (words x.ty) (by omega) rfl (by kernel_rfl) (by kernel_rfl))) (fun _ => KS.out _ g5) ?_
    refine late_pure 8 (ptr g o) rfl (by kernel_rfl) (by kernel_rfl) (by kernel_rfl) (fun _ _ _ h => h) (by decide) (yields rfl (fun _ _ => ev_nil 45 ⟨g, o, none⟩ rfl (by kernel_rfl))) (fun _ => KS.out _ g5) ?_
    refine late_pure 9 (.pointer (some ⟨g, o + 6, none⟩)) rfl (by kernel_rfl) (by kernel_rfl) (by kernel_rfl) (fun _ _ _ h => h) (by decide) (yields rfl (fun _ _ => ev_field 128 53 2 (ptr g o) _ rfl (by kernel_rfl) (by kernel_rfl))) (fun _ => KS.out _ g5) ?_
    refine late_all [10] (by kernel_rfl) (by simp) (fun j hj => ?_)
    simp only [List.mem_singleton] at hj
    subst hj
    refine late_skip rfl rfl (ev_store 3 54 52 _ _ _ rfl (by kernel_rfl) (by kernel_rfl) hst6) ⟨(fun h => Bool.noConfusion (show true = false from h)), ?_⟩
    refine late_done (by kernel_rfl) ?_
    have hgA : g ≠ w.heap.size := fun e => by
     obtain ⟨cu, s, h1, _⟩ := H5.out.2.2.row
     have h2 := H5.out.2.1
     rw [← e, h1] at h2
     simp at h2
    have fs : Fr (fun k => k = g) w5 (w5.setCell ⟨g, o + 6, none⟩ (.int .i64 (yk.words + words x.ty))) := (Fr.refl (fun k => k = g) w5).setCell (p := ⟨g, o + 6, none⟩) (fun _ => rfl) _
    have HZ : Hid (_ ∧ _) := ⟨fs.heap (g5.heap H5.out.2.1 (fun f => f)) (Ne.symm hgA), M6⟩
    clear hst6 M5 M6 fs
    generalize hV : w5.setCell ⟨g, o + 6, none⟩ (.int .i64 (yk.words + words x.ty)) = V at *
    go_wp2_with fail
    go_roundw
    case rel =>
     obtain ⟨r1, r2, r3, r4, r5, r6⟩ := HK.out
     refine ⟨k + 1, takeF co.name yk x, by go_num, by omega, HZ.out.1, ?_, ?_, ?_, ?_, r6⟩
     · have := HZ.out.2
       unfold MidY takeF
       simp only [List.length_append, List.length_singleton]
       exact this
     · rw [r3, takeFs_drop co.name yk co.fields k x HX.out]
     · show (yk.slots ++ [_]).length = _
       simp only [List.length_append, List.length_singleton]
       omega
     · show 0 ≤ yk.words + words x.ty ∧ yk.words + words x.ty ≤ _
       omega
    case measure => simp [intOf]; omega
  · have hkn : k = nf := by omega
    subst hkn
    have r3' : takeFs co.name y co.fields = yk := by
     rw [r3, List.drop_eq_nil_of_le (by omega)]
     rfl
    obtain ⟨-, -, -, a3, a4⟩ := box5 r1
    have HK : Hid (_ ∧ _ ∧ _ ∧ _) := ⟨r1, r2, r3', r6⟩
    clear r1 r2 r3 r3' r4 r5 r6
    go_wp2_with fail
    go_loopw [59] (fun i wr2 => ∃ (j : Nat) (yj : Li), i = .int .i64 (j : Int) ∧ j ≤ nm ∧ wr2.heap[w.heap.size]? = some (.cells #[.string co.name, .string ss, .slice sp.a sp.n sp.c, .slice fa k fc, .slice ma nm mc] 51 (0, 0)) ∧ MidY w1 wr2 g o cur0 f m yj ∧
     takeMs num 0 yk co.methods = takeMs num j yj (co.methods.drop j) ∧ yj.nm = yk.nm + j) (fun i _ => nm - (intOf i).toNat)
    case atStart => exact ⟨0, yk, rfl, Nat.zero_le _, HK.out.1, HK.out.2.1, rfl, rfl⟩
    case round =>
     obtain ⟨j, yj, rfl, hj, r1, r2, r3, r4⟩ := hrel
     by_cases hlt2 : j < nm
     · have hji : (j : Int) < (nm : Int) := by omega
       obtain ⟨ls, ml1, ml2, ml3⟩ := (HC.out wr r2.fr).m
       simp only [] at ml1
       obtain ⟨x, hx⟩ : ∃ x, ls[j]? = some x := ⟨_, List.getElem?_eq_getElem (by omega)⟩
       obtain ⟨mt, hmt⟩ : ∃ mt, co.methods[j]? = some mt := ⟨_, List.getElem?_eq_getElem (by omega)⟩
       have mo := ml3 j x mt hx hmt
       obtain ⟨mg, rfl⟩ := ml1.some_of (fun e => by rw [e] at hx; simp at hx)
       have d : ∀ i u, (msC x)[i]? = some u → wr.cell? ⟨mg, j * 8 + i, none⟩ = some u := fun i u hi => ml1.cell okMs hx hi
       have d0 := d 0 _ rfl
       have d1 := d 1 _ rfl
       have d2 := d 2 _ rfl
       have d3 := d 3 _ rfl
       have d4 := d 4 _ rfl
       have d5 := d 5 _ rfl
       have d6 := d 6 _ rfl
       have d7 := d 7 _ rfl
       rw [Nat.add_zero] at d0
       have fitx := (HFit.out.methods mt (List.mem_of_getElem? hmt)).name
       have HX : Hid (co.methods[j]? = some mt ∧ x.name = mt.name) := ⟨hmt, mo.name⟩
       have hxn := mo.name
       have hb5 : yj.nm ≤ 1000000 := by have := HK.out.2.2.2; omega
       have HK2 : Hid (_ ∧ _ ∧ _ ∧ _) := ⟨r1, r2, r3, r4⟩
       have G1 : Fr no wr (wr.alloc (.cells #[.string x.name, .slice x.p.a x.p.n x.p.c, .int .i64 x.ret.k, .string x.ret.c, .int .i64 x.lo, .int .i64 x.st, .slice x.c.a x.c.n x.c.c, .slice x.h.a x.h.n x.h.c] 47)) := (Fr.refl no wr).alloc _ _
       have E1 : (wr.alloc (.cells #[.string x.name, .slice x.p.a x.p.n x.p.c, .int .i64 x.ret.k, .string x.ret.c, .int .i64 x.lo, .int .i64 x.st, .slice x.c.a x.c.n x.c.c, .slice x.h.a x.h.n x.h.c] 47)).heap[wr.heap.size]? = some (.cells #[.string x.name, .slice x.p.a x.p.n x.p.c, .int .i64 x.ret.k, .string x.ret.c, .int .i64 x.lo, .int .i64 x.st, .slice x.c.a x.c.n x.c.c, .slice x.h.a x.h.n x.h.c] 47 (0, 0)) := heap_alloc_new wr _
       have A1 := G1.heap r1 (fun f => f)
       have M1 : MidY w1 _ g o cur0 f m yj := r2.keep G1
       have M1d := M1.keep (Fr.refl no _).drew
       obtain ⟨s1, hs1, c5, c6, c7, c8, own1, new1, fz1⟩ := M1.cells HS.out
       obtain ⟨w2, hrun2, M2, F2⟩ := M1d.putM HS.out x.name (by rw [hxn]; exact fitx) num j hb5
       have e10 : (wr.alloc (.cells #[.string x.name, .slice x.p.a x.p.n x.p.c, .int .i64 x.ret.k, .string x.ret.c, .int .i64 x.lo, .int .i64 x.st, .slice x.c.a x.c.n x.c.c, .slice x.h.a x.h.n x.h.c] 47)).cell? ⟨wr.heap.size, 0, none⟩ = some (.string x.name) := by rw [cell_at E1]; rfl
       have A2 := F2.heap A1 (fun he => by
        obtain ⟨D, ⟨es, cl, hb, _⟩, _⟩ := M1.mm
        rw [he, hb] at A1
        simp at A1)
       have H2 : Hid (_ ∧ _) := ⟨A2, M2⟩
       clear r1 r2 r3 r4 ml1 ml2 ml3 d hx hmt mo M1 M1d own1 new1 fz1 A1 G1 F2 A2 M2 E1 hs1 hxn c5 c6 c7
       go_wp2_with fail
       go_region
       go_wp2_with fail
       go_roundw
       case rel =>
        obtain ⟨r1, r2, r3, r4⟩ := HK2.out
        refine ⟨j + 1, takeM num j yj mt, by go_num, by omega, H2.out.1, ?_, ?_, ?_⟩
        · have := H2.out.2
          unfold MidY takeM
          simp only []
          rw [← HX.out.2]
          exact this
        · rw [r3, takeMs_drop num j yj co.methods j mt HX.out.1]
        · show yj.nm + 1 = _
          omega
       case measure => simp [intOf]; omega
     · have hjn : j = nm := by omega
       subst hjn
       have hend : takeC y num co = yj := by
        unfold takeC
        rw [HK.out.2.2.1, r3, List.drop_eq_nil_of_le (by omega)]
        rfl
       have HZ : Hid (_ ∧ _) := ⟨r2, hend⟩
       clear r1 r2 r3 r4 hend
       go_wp2_with fail
       go_end0
       exact ⟨rfl, by rw [HZ.out.2]; exact HZ.out.1⟩
end Go.Proofs.YtalgjpmaafooeaaGreatDoor
/- The program in memory. -/
namespace Go.Proofs.YtalgjpmaafooeaaGreatDoor
open Go.ChangeShapes Go.WideShapes Go.ChangeAt Go.RowKit
open H (ky Owns MapOf ix)
structure LkAt (w : World) (x : Lk) (y : Li) : Prop where
 k : ClOwn w x.k y.c
 s : OwnG elSt w (.slice x.s.a x.s.n x.s.c) y.slots
 wd : x.wd = y.words
 f : ∃ D, Owns w x.fm y.slots.length D ∧ MapG encI 0 D y.fm
 m : ∃ D, OwnsP w x.mm y.nm D ∧ MapG encP (0, 0) D y.mm
structure PB (w0 w : World) (p hp m : Nat) (v : Value) (X : List Lk) (Y : List Li) : Prop where
 fr : Fr no w0 w
 pb : w.heap[p]? = some (.cells #[.pointer (some ⟨hp, 0, none⟩), .map (some m), v] 120 (0, 0))
 num : ∃ D, Owns w m Y.length D ∧ MapOf D (Y.map (·.c.name))
 row : OwnG elLk w v X
 len : X.length = Y.length
 at' : ∀ (i : Nat) (x : Lk) (y : Li), X[i]? = some x → Y[i]? = some y → LkAt w x y
 newp : w0.heap.size ≤ p ∧ w0.heap.size ≤ m ∧ NewV w0 v
 newx : ∀ x ∈ X, w0.heap.size ≤ x.fm ∧ w0.heap.size ≤ x.mm
 dis : ∀ (i j : Nat) (x x' : Lk), X[i]? = some x → X[j]? = some x' → x.fm ≠ x'.mm ∧ (i ≠ j → x.fm ≠ x'.fm ∧ x.mm ≠ x'.mm)
 dm : ∀ x ∈ X, m ≠ x.fm ∧ m ≠ x.mm
theorem LkAt.kept {S : Nat → Prop} {w w' : World} {x : Lk} {y : Li} (h : LkAt w x y) (hf : Fr S w w') (hS : Apart S w) (h35 : ∀ k, S k → ∀ cur e, w.heap[k]? = some (.cells cur e (0, 0)) → e ≠ 188) (hfm : ¬ S x.fm) (hmm : ¬ S x.mm) : LkAt w' x y := by
 obtain ⟨D, d1, d2⟩ := h.f
 obtain ⟨E, e1, e2⟩ := h.m
 refine ⟨h.k.kept hf hS, h.s.kept hf (fun k hk hs => ?_), h.wd, ⟨D, H.owns_keep d1 hf hfm, d2⟩, ⟨E, ownsP_keep e1 hf hmm, e2⟩⟩
 obtain ⟨cu, hc⟩ := h.s.tag hk
 exact h35 k hs cu _ hc rfl
theorem LkAt.keep {w w' : World} {x : Lk} {y : Li} (h : LkAt w x y) (hf : Fr no w w') : LkAt w' x y := h.kept hf (Apart.no w) (fun _ f => f.elim) (fun f => f) (fun f => f)
section
variable {w0 w : World} {p hp m : Nat} {v : Value} {X : List Lk} {Y : List Li}
theorem PB.keep (h : PB w0 w p hp m v X Y) {w' : World} (hf : Fr no w w') : PB w0 w' p hp m v X Y := by
 obtain ⟨D, d1, d2⟩ := h.num
 exact ⟨h.fr.new hf (fun _ _ f => f), hf.heap h.pb (fun f => f), ⟨D, H.owns_keep d1 hf (fun f => f), d2⟩, h.row.keep hf, h.len, fun i x y hx hy => (h.at' i x y hx hy).keep hf, h.newp, h.newx, h.dis, h.dm⟩
theorem PB.get (h : PB w0 w p hp m v X Y) {i : Nat} (hi : i < Y.length) : ∃ x y, X[i]? = some x ∧ Y[i]? = some y ∧ LkAt w x y := by
 obtain ⟨x, hx⟩ : ∃ x, X[i]? = some x := ⟨_, List.getElem?_eq_getElem (by rw [h.len]; exact hi)⟩
 obtain ⟨y, hy⟩ : ∃ y, Y[i]? = some y := ⟨_, List.getElem?_eq_getElem hi⟩
 exact ⟨x, y, hx, hy, h.at' i x y hx hy⟩
theorem PB.form (h : PB w0 w p hp m v X Y) : ∃ q c, v = .slice q Y.length c := by
 obtain ⟨q, c, e⟩ := h.row.form
 exact ⟨q, c, by rw [← h.len]; exact e⟩
theorem map_lt {w : World} {b n : Nat} {k : TypeId} {R : Value → Option (DataW Unit × List MemPlace)} {D : DataW Unit} (h : w.ownsMap Tryz.prog k R b n D) : ∃ es c, w.heap[b]? = some (.map es c) := by
 obtain ⟨es, c, hb, _⟩ := h
 exact ⟨es, c, hb⟩
theorem PB.laid {w1 : World} (h : PB w0 w1 p hp m v X Y) {i : Nat} {x : Lk} {y y' : Li} (hx : X[i]? = some x) (hy : Y[i]? = some y) (hc : y'.c = y.c) {g cap : Nat} (hv : v = .slice (some ⟨g, 0, none⟩) Y.length cap) {cur0 : Array Value} (hcur : w1.heap[g]? = some (.cells cur0 128 (0, 0)))
 (hmid : Mid w1 w g (i * 9) cur0 x.fm x.mm y'.slots y'.words y'.fm y'.slots.length y'.mm y'.nm) : ∃ x', PB w0 w p hp m v (X.set i x') (Y.set i y') ∧ x'.fm = x.fm ∧ x'.mm = x.mm ∧ x'.k = x.k := by
 obtain ⟨cur, s, r1, r2, r3, r4, r5, r6, r7⟩ := hmid.row
 have hil : i < X.length := (List.getElem?_eq_some_iff.1 hx).1
 have hil' : i < Y.length := (List.getElem?_eq_some_iff.1 hy).1
 have L0 := h.at' i x y hx hy
 have hfr := hmid.fr
 obtain ⟨D, d1, d2⟩ := h.num
 obtain ⟨em, cm, hbm⟩ := map_lt d1
 have hxm := List.mem_of_getElem? hx
 obtain ⟨D1, q1, -⟩ := L0.f
 obtain ⟨D2, q2, -⟩ := L0.m
 obtain ⟨e1, c1, hb1⟩ := map_lt q1
 obtain ⟨e2, c2, hb2⟩ := map_lt q2
 have hpt : ¬ Turn g x.fm x.mm p := by
  rintro (e | e | e)
  · have := h.pb
    rw [e, hcur] at this
    simp at this
  · have := h.pb
    rw [e, hb1] at this
    simp at this
  · have := h.pb
    rw [e, hb2] at this
    simp at this
 have hmt : ¬ Turn g x.fm x.mm m := by
  rintro (e | e | e)
  · rw [e, hcur] at hbm
    simp at hbm
  · exact (h.dm x hxm).1 e
  · exact (h.dm x hxm).2 e
 have hap : Apart (Turn g x.fm x.mm) w1 := by
  intro k hk cu e hc
  rcases hk with rfl | rfl | rfl
  · rw [hcur] at hc
    simp only [Option.some.injEq, Obj.cells.injEq] at hc
    obtain ⟨_, rfl, _⟩ := hc
    decide
  · rw [hb1] at hc
    simp at hc
  · rw [hb2] at hc
    simp at hc
 have h35 : ∀ k, Turn g x.fm x.mm k → ∀ cu e, w1.heap[k]? = some (.cells cu e (0, 0)) → e ≠ 188 := by
  intro k hk cu e hc
  rcases hk with rfl | rfl | rfl
  · rw [hcur] at hc
    simp only [Option.some.injEq, Obj.cells.injEq] at hc
    obtain ⟨_, rfl, _⟩ := hc
    decide
  · rw [hb1] at hc
    simp at hc
  · rw [hb2] at hc
    simp at hc
 subst hv
 obtain ⟨c0, hc0, hn0, hcap, hmx, hsz, htk, hnb⟩ := h.row.cur
 rw [hcur] at hc0
 simp only [Option.some.injEq, Obj.cells.injEq] at hc0
 obtain ⟨rfl, _, _⟩ := hc0
 have hcell : ∀ j u, (lkC x)[j]? = some u → cur0[i * 9 + j]? = some u := fun j u hj => by
  have := h.row.cell okLk hx hj
  rw [cell_at hcur] at this
  exact this
 refine ⟨⟨x.k, s, y'.words, x.fm, x.mm⟩, ⟨h.fr.new hfr (fun k hk ht => ?_), hfr.heap h.pb hpt, ⟨D, ?_, ?_⟩, ?_, by simp [h.len], fun j xj yj hxj hyj => ?_, h.newp, fun xx hxx => ?_, fun j k xj xk hxj hxk => ?_, fun xx hxx => ?_⟩, rfl, rfl, rfl⟩
 · rcases ht with rfl | rfl | rfl
   · have := h.newp.2.2 k rfl
     omega
   · have := (h.newx x hxm).1
     omega
   · have := (h.newx x hxm).2
     omega
 · rw [List.length_set]
   exact H.owns_keep d1 hfr hmt
 · have : (Y.set i y').map (·.c.name) = Y.map (·.c.name) := by
    apply List.ext_getElem?
    intro j
    by_cases hj : i = j
    · subst hj
      rw [List.getElem?_map, List.getElem?_map, List.getElem?_set_self hil', hy]
      simp [hc]
    · rw [List.getElem?_map, List.getElem?_map, List.getElem?_set_ne hj]
   rw [this]
   exact d2
 · refine h.row.put okLk hcur r1 r2 hil _ (fun j u hj => ?_) (fun j hj => r5 j (by simp [elLk] at hj; omega) (by simp [elLk] at hj; omega))
   have hj' : (lkC ⟨x.k, s, y'.words, x.fm, x.mm⟩)[j]? = some u := hj
   have hjl : j < 9 := (List.getElem?_eq_some_iff.1 hj').1
   by_cases h5 : j = 5
   · subst h5
     simp [lkC] at hj'
     rw [← hj']
     exact r3
   · by_cases h6 : j = 6
     · subst h6
       simp [lkC] at hj'
       rw [← hj']
       exact r4
     · show cur[i * 9 + j]? = some u
       rw [r5 _ (by omega) (by omega)]
       refine hcell j u ?_
       rw [← hj']
       match j, hjl, h5, h6 with
       | 0, _, _, _ => rfl
       | 1, _, _, _ => rfl
       | 2, _, _, _ => rfl
       | 3, _, _, _ => rfl
       | 4, _, _, _ => rfl
       | 7, _, _, _ => rfl
       | 8, _, _, _ => rfl
 · by_cases hj : i = j
   · subst hj
     rw [List.getElem?_set_self hil] at hxj
     rw [List.getElem?_set_self hil'] at hyj
     simp only [Option.some.injEq] at hxj hyj
     subst hxj hyj
     exact ⟨by rw [hc]; exact L0.k.kept hfr hap, r6, rfl, hmid.fm, hmid.mm⟩
   · rw [List.getElem?_set_ne hj] at hxj hyj
     have Lj := h.at' j xj yj hxj hyj
     obtain ⟨D3, q3, -⟩ := Lj.f
     obtain ⟨D4, q4, -⟩ := Lj.m
     obtain ⟨e3, c3, hb3⟩ := map_lt q3
     obtain ⟨e4, c4, hb4⟩ := map_lt q4
     have dij := h.dis i j x xj hx hxj
     have dji := h.dis j i xj x hxj hx
     refine Lj.kept hfr hap h35 ?_ ?_
     · rintro (e | e | e)
       · rw [e, hcur] at hb3
         simp at hb3
       · exact (dij.2 hj).1 e.symm
       · exact dji.1 e
     · rintro (e | e | e)
       · rw [e, hcur] at hb4
         simp at hb4
       · exact dij.1 e.symm
       · exact (dij.2 hj).2 e.symm
 · rcases List.mem_or_eq_of_mem_set hxx with h1 | rfl
   · exact h.newx xx h1
   · exact h.newx x hxm
 · have key : ∀ (j : Nat) (xj : Lk), (X.set i ⟨x.k, s, y'.words, x.fm, x.mm⟩)[j]? = some xj → ∃ xo, X[j]? = some xo ∧ xj.fm = xo.fm ∧ xj.mm = xo.mm := fun j xj hxj => by
    by_cases hj : i = j
    · subst hj
      rw [List.getElem?_set_self hil] at hxj
      simp only [Option.some.injEq] at hxj
      subst hxj
      exact ⟨x, hx, rfl, rfl⟩
    · rw [List.getElem?_set_ne hj] at hxj
      exact ⟨xj, hxj, rfl, rfl⟩
   obtain ⟨xo, o1, o2, o3⟩ := key j xj hxj
   obtain ⟨xp, p1, p2, p3⟩ := key k xk hxk
   rw [o2, o3, p2, p3]
   exact h.dis j k xo xp o1 p1
 · rcases List.mem_or_eq_of_mem_set hxx with h1 | rfl
   · exact h.dm xx h1
   · exact h.dm x hxm
end
end Go.Proofs.YtalgjpmaafooeaaGreatDoor
/- One class more. -/
namespace Go.Proofs.YtalgjpmaafooeaaGreatDoor
open Go.ChangeShapes Go.WideShapes Go.ChangeAt Go.RowKit
open H (ky Owns MapOf ix ky_key keyed)
theorem cells3 {w : World} {p : Nat} {x y z : Value} {t : TypeId} (h : w.heap[p]? = some (.cells #[x, y, z] t (0, 0))) :
 w.cell? ⟨p, 0, none⟩ = some x ∧ w.cell? ⟨p, 1, none⟩ = some y ∧ w.cell? ⟨p, 2, none⟩ = some z := by
 refine ⟨?_, ?_, ?_⟩ <;> simp [World.cell?, h]
theorem own_alloc_map {w : World} {b n : Nat} {k : TypeId} {R : Value → Option (DataW Unit × List MemPlace)} {D : DataW Unit} (h : w.ownsMap Tryz.prog k R b n D) {w' : World} (hf : Fr no w w') : w'.ownsMap Tryz.prog k R b n D := by
 have hlt := h.lt
 obtain ⟨es, clock, hb, F, hs, hD⟩ := h
 exact ⟨es, clock, (hf.block b hlt (fun f => f)).trans hb, F, hs, hD⟩
theorem PB.added {w0 w : World} {p hp m : Nat} {v : Value} {X : List Lk} {Y : List Li} (h : PB w0 w p hp m v X Y) {c : Cl} {s : Ks} (hc : ClOwn w s c) (hN : ix c.name (Y.map (·.c.name)) = none) (hs : c.name.size ≤ 1099511627776) (hY : Y.length ≤ 1000) :
 ∃ w2, (Instr.mapUpdate 114 (.map (some m)) (.string c.name) (.int .i64 (Y.length : Int))).run Tryz.prog w = .ok () w2 ∧ Fr (fun k => k = m) w w2 ∧ w2.heap[p]? = some (.cells #[.pointer (some ⟨hp, 0, none⟩), .map (some m), v] 120 (0, 0)) ∧ OwnG elLk w2 v X ∧ (∀ wa, Fr no w2 wa → ∀ fm mm v' w3, w2.heap.size ≤ fm → w2.heap.size ≤ mm → fm ≠ mm → Owns wa fm 0 (.map []) → OwnsP wa mm 0 (.map []) →
  OwnG elLk w3 v' (X ++ [⟨s, ⟨none, 0, 0⟩, 0, fm, mm⟩]) → Sp no v wa v' w3 →
  w3.cell? ⟨p, 2, none⟩ = some v ∧ ∃ w4, (Instr.storeAt 118 (.pointer (some ⟨p, 2, none⟩)) v').run Tryz.prog w3 = .ok () w4 ∧ PB w0 w4 p hp m v' (X ++ [⟨s, ⟨none, 0, 0⟩, 0, fm, mm⟩]) (Y ++ [li0 c])) := by
 obtain ⟨D, d1, d2⟩ := h.num
 obtain ⟨em, cm, hbm⟩ := map_lt d1
 obtain ⟨w2, hrun, o1, t1⟩ := d1.store keyed Tryz.underlying114 (by unfold maxLen; omega) (ky_key hs) (plainElem_int (a := (Y.length : Int)) Tryz.underlying3 (WalkArith.wf_i64 (by omega)))
 have ht := H.turned_fr t1
 have npm : p ≠ m := fun e => by
  have := h.pb
  rw [e, hbm] at this
  simp at this
 have nvm : ∀ k, v.ownBlock = some k → k ≠ m := fun k hk e => by
  obtain ⟨cu, hcu⟩ := h.row.tag hk
  rw [e, hbm] at hcu
  simp at hcu
 have hap : Apart (fun k => k = m) w := fun k hk cu e hcu => by
  rw [hk, hbm] at hcu
  simp at hcu
 have r2 := h.row.kept ht nvm
 have p2 := ht.heap h.pb npm
 refine ⟨w2, hrun, ht, p2, r2, fun wa ha fm mm v' w3 hfm hmm hne ofm omm o3 s3 => ?_⟩
 have f2 : Fr no w0 w2 := h.fr.new ht (fun i hi e => by have := h.newp.2.1; omega)
 have fa := f2.new ha (fun _ _ f => f)
 have sF : Fr (fun k => v.ownBlock = some k) wa w3 := s3.1.mono (fun i _ e => e.elim (fun f => f.elim) id)
 have pa := ha.heap p2 (fun f => f)
 have ra := r2.keep ha
 have nvp : v.ownBlock ≠ some p := fun e => by
  obtain ⟨cu, hcu⟩ := ra.tag e
  rw [pa] at hcu
  simp [elLk] at hcu
 have tagv : ∀ {es : Array MapEntry} {cl k : Nat}, wa.heap[k]? = some (.map es cl) → v.ownBlock ≠ some k := fun hk e => by
  obtain ⟨cu, hcu⟩ := ra.tag e
  rw [hk] at hcu
  simp at hcu
 have p3 := sF.heap pa nvp
 obtain ⟨qv, cv, hv'⟩ := o3.form
 obtain ⟨qo, co, hvo⟩ := h.form
 have hst : (Instr.storeAt 118 (.pointer (some ⟨p, 2, none⟩)) v').run Tryz.prog w3 = .ok () (w3.setCell ⟨p, 2, none⟩ v') := by
  have hc2 := (cells3 p3).2.2
  have hz2 : w3.frozen? ⟨p, 2, none⟩ = false := frozen_at p3
  rw [hv']
  simp [go_sem, hc2, hz2]
 have fs : Fr (fun k => k = p) w3 (w3.setCell ⟨p, 2, none⟩ v') := (Fr.refl (fun k => k = p) w3).setCell (p := ⟨p, 2, none⟩) (fun _ => rfl) v'
 have f3 : Fr no w0 w3 := fa.new sF (fun i hi e => by have := h.newp.2.2 i e; omega)
 have nv : NewV w0 v' := fun k hk => by
  by_cases hlt : k < wa.heap.size
  · exact h.newp.2.2 k (s3.2 k hlt hk)
  · have := fa.size
    omega
 have nvp' : ∀ k, v'.ownBlock = some k → ¬ k = p := fun k hk e => by
  obtain ⟨cu, hcu⟩ := o3.tag hk
  rw [e, p3] at hcu
  simp [elLk] at hcu
 obtain ⟨ef, cf, hbf⟩ := map_lt ofm
 obtain ⟨eg, cg', hbg⟩ := map_lt omm
 -- from wa to the end: the old row and p alone
 have fE : Fr (fun k => v.ownBlock = some k ∨ k = p) wa (w3.setCell ⟨p, 2, none⟩ v') := sF.trans fs (fun _ _ e => .inl e) (fun _ _ e => .inr e)
 have hapE : Apart (fun k => v.ownBlock = some k ∨ k = p) wa := fun k hk cu e hcu => by
  rcases hk with hk | rfl
  · obtain ⟨c', hc'⟩ := ra.tag hk
    rw [hcu] at hc'
    simp only [Option.some.injEq, Obj.cells.injEq] at hc'
    rw [hc'.2.1]
    decide
  · rw [pa] at hcu
    simp only [Option.some.injEq, Obj.cells.injEq] at hcu
    rw [← hcu.2.1]
    decide
 have h35E : ∀ k, (v.ownBlock = some k ∨ k = p) → ∀ cu e, wa.heap[k]? = some (.cells cu e (0, 0)) → e ≠ 188 := fun k hk cu e hcu => by
  rcases hk with hk | rfl
  · obtain ⟨c', hc'⟩ := ra.tag hk
    rw [hcu] at hc'
    simp only [Option.some.injEq, Obj.cells.injEq] at hc'
    rw [hc'.2.1]
    decide
  · rw [pa] at hcu
    simp only [Option.some.injEq, Obj.cells.injEq] at hcu
    rw [← hcu.2.1]
    decide
 have mapE : ∀ {es : Array MapEntry} {cl k : Nat}, wa.heap[k]? = some (.map es cl) → ¬ (v.ownBlock = some k ∨ k = p) := fun hk e => by
  rcases e with e | rfl
  · exact tagv hk e
  · rw [pa] at hk
    simp at hk
 have own1a := own_alloc_map o1 ha
 obtain ⟨e5, c5, hb5⟩ := map_lt own1a
 have old : ∀ x ∈ X, x.fm < w2.heap.size ∧ x.mm < w2.heap.size := fun x hx => by
  obtain ⟨i, hi⟩ := List.mem_iff_getElem?.1 hx
  obtain ⟨y, hy⟩ : ∃ y, Y[i]? = some y := ⟨_, List.getElem?_eq_getElem (by rw [← h.len]; exact (List.getElem?_eq_some_iff.1 hi).1)⟩
  obtain ⟨_, q1, _⟩ := (h.at' i x y hi hy).f
  obtain ⟨_, q2, _⟩ := (h.at' i x y hi hy).m
  have := q1.lt
  have := q2.lt
  have := ht.size
  exact ⟨by omega, by omega⟩
 have hmlt : m < w2.heap.size := o1.lt
 refine ⟨(cells3 p3).2.2, _, hst, ⟨f3.new fs (fun i hi e => by have := h.newp.1; omega), ?_, ⟨D.put (ky c.name) (.lit (.int .i64 (Y.length : Int))), ?_, ?_⟩, o3.kept fs nvp', by simp [h.len], fun i x y hx hy => ?_, ⟨h.newp.1, h.newp.2.1, nv⟩, fun x hx => ?_, fun i j x x' hx hx' => ?_, fun x hx => ?_⟩⟩
 · exact set_at p3
 · have := H.owns_keep own1a fE (mapE hb5)
   simpa using this
 · rw [List.map_append]
   have := H.mapOf_put d2 hN
   rw [List.length_map] at this
   exact this
 · by_cases hi : i < X.length
   · rw [List.getElem?_append_left hi] at hx
     rw [List.getElem?_append_left (by rw [← h.len]; exact hi)] at hy
     have L := h.at' i x y hx hy
     have dmx := h.dm x (List.mem_of_getElem? hx)
     have L2 : LkAt w2 x y := L.kept ht hap (fun k hk cu e hcu => by rw [hk, hbm] at hcu; simp at hcu) (fun e => dmx.1 e.symm) (fun e => dmx.2 e.symm)
     have La := L2.keep ha
     obtain ⟨_, q1, _⟩ := La.f
     obtain ⟨_, q2, _⟩ := La.m
     obtain ⟨_, _, b1⟩ := map_lt q1
     obtain ⟨_, _, b2⟩ := map_lt q2
     exact La.kept fE hapE h35E (mapE b1) (mapE b2)
   · have hxl := (List.getElem?_eq_some_iff.1 hx).1
     simp only [List.length_append, List.length_singleton] at hxl
     have e : i = X.length := by omega
     subst e
     rw [List.getElem?_append_right (Nat.le_refl _), Nat.sub_self] at hx
     rw [h.len, List.getElem?_append_right (Nat.le_refl _), Nat.sub_self] at hy
     simp only [List.getElem?_cons_zero, Option.some.injEq] at hx hy
     subst hx hy
     refine ⟨((hc.kept ht hap).keep ha).kept fE hapE, OwnG.nil _ _, rfl, ⟨_, H.owns_keep ofm fE (mapE hbf), mapG_nil _ _⟩, ⟨_, ownsP_keep omm fE (mapE hbg), mapG_nil _ _⟩⟩
 · rcases List.mem_append.1 hx with hx | hx
   · exact h.newx x hx
   · simp only [List.mem_singleton] at hx
     subst hx
     have := f2.size
     exact ⟨by show _ ≤ fm; omega, by show _ ≤ mm; omega⟩
 · have key : ∀ (i : Nat) (x : Lk), (X ++ [⟨s, ⟨none, 0, 0⟩, 0, fm, mm⟩])[i]? = some x → (X[i]? = some x ∧ x.fm < w2.heap.size ∧ x.mm < w2.heap.size) ∨ (i = X.length ∧ x.fm = fm ∧ x.mm = mm) := fun i x hx => by
    by_cases hi : i < X.length
    · rw [List.getElem?_append_left hi] at hx
      exact .inl ⟨hx, old x (List.mem_of_getElem? hx)⟩
    · have hxl := (List.getElem?_eq_some_iff.1 hx).1
      simp only [List.length_append, List.length_singleton] at hxl
      have e : i = X.length := by omega
      subst e
      rw [List.getElem?_append_right (Nat.le_refl _), Nat.sub_self] at hx
      simp only [List.getElem?_cons_zero, Option.some.injEq] at hx
      subst hx
      exact .inr ⟨rfl, rfl, rfl⟩
   rcases key i x hx with ⟨h1, l1, l2⟩ | ⟨rfl, a1, a2⟩ <;> rcases key j x' hx' with ⟨h2, l3, l4⟩ | ⟨rfl, b1, b2⟩
   · exact h.dis i j x x' h1 h2
   · exact ⟨by omega, fun _ => ⟨by omega, by omega⟩⟩
   · exact ⟨by omega, fun _ => ⟨by omega, by omega⟩⟩
   · exact ⟨by omega, fun hne' => absurd rfl hne'⟩
 · rcases List.mem_append.1 hx with hx | hx
   · exact h.dm x hx
   · simp only [List.mem_singleton] at hx
     subst hx
     exact ⟨by show m ≠ fm; omega, by show m ≠ mm; omega⟩
end Go.Proofs.YtalgjpmaafooeaaGreatDoor
