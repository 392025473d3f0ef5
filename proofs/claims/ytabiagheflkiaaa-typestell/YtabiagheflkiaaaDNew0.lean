/- New classes of the document: memory, and what is told without it. -/
import Derived.Test.YtabiagheflkiaaaRef2
import Derived.Test.YtabiagheflkiaaaNew
namespace Go.Proofs.Ytabiagheflkiaaa
open Go.ChangeShapes Go.WideShapes Go.ChangeAt Go.RowKit

/-- The document's classes, all of it from c on, its two rows apart. -/
structure RN (c : Nat) (w : World) (p : Nat) (vn vs : Value) (M T : List ByteArray) : Prop where
  cells : w.heap[p]? = some (.cells #[vn, vs] 37 (0, 0))
  one : OwnG elS w vn M
  two : OwnG elS w vs T
  newp : c ≤ p
  new1 : ∀ k, vn.ownBlock = some k → c ≤ k
  new2 : ∀ k, vs.ownBlock = some k → c ≤ k
  apart : ∀ k, vn.ownBlock = some k → vs.ownBlock ≠ some k

theorem RN.notp1 {c : Nat} {w : World} {p : Nat} {vn vs : Value} {M T : List ByteArray} (h : RN c w p vn vs M T) : vn.ownBlock ≠ some p := fun e => by
  obtain ⟨cur, hc⟩ := h.one.tag e; rw [h.cells] at hc; simp [elS] at hc
theorem RN.notp2 {c : Nat} {w : World} {p : Nat} {vn vs : Value} {M T : List ByteArray} (h : RN c w p vn vs M T) : vs.ownBlock ≠ some p := fun e => by
  obtain ⟨cur, hc⟩ := h.two.tag e; rw [h.cells] at hc; simp [elS] at hc

theorem RN.keep {c : Nat} {w w' : World} {p : Nat} {vn vs : Value} {M T : List ByteArray} (h : RN c w p vn vs M T) (f : Fr no w w') : RN c w' p vn vs M T :=
  ⟨f.heap h.cells (fun f => f), h.one.keep f, h.two.keep f, h.newp, h.new1, h.new2, h.apart⟩

/-- Behind the first append. -/
theorem RN.mid {c : Nat} {wr Wa w2 : World} {p : Nat} {vn vs v' : Value} {M T : List ByteArray} (h : RN c wr p vn vs M T) (fa : Fr no wr Wa) (hc : c ≤ wr.heap.size) (s : Sp vn Wa v' w2) :
    w2.heap[p]? = some (.cells #[vn, vs] 37 (0, 0)) ∧ OwnG elS w2 vs T ∧ Fr (From c) wr w2 ∧ (∀ k, v'.ownBlock = some k → c ≤ k) ∧ (∀ k, v'.ownBlock = some k → vs.ownBlock ≠ some k) := by
  have ha := h.keep fa
  refine ⟨s.1.heap ha.cells ha.notp1, ha.two.kept s.1 (fun k hk e => h.apart k e hk), fa.trans s.1 (fun _ _ f => f.elim) (fun i _ e => h.new1 i e), fun k hk => ?_, fun k hk e => ?_⟩
  · by_cases hlt : k < Wa.heap.size
    · exact h.new1 k (s.2 k hlt hk)
    · have := fa.size; omega
  · exact h.apart k (s.2 k (ha.two.lt e) hk) e

theorem set_one {w : World} {p : Nat} {x y u : Value} {t : TypeId} (h : w.heap[p]? = some (.cells #[x, y] t (0, 0))) : (w.setCell ⟨p, 0, none⟩ u).heap[p]? = some (.cells #[u, y] t (0, 0)) := by
  unfold World.setCell
  rw [Array.getElem?_modify, if_pos rfl, h]
  rfl
theorem set_two {w : World} {p : Nat} {x y u : Value} {t : TypeId} (h : w.heap[p]? = some (.cells #[x, y] t (0, 0))) : (w.setCell ⟨p, 1, none⟩ u).heap[p]? = some (.cells #[x, u] t (0, 0)) := by
  unfold World.setCell
  rw [Array.getElem?_modify, if_pos rfl, h]
  rfl

/-- Behind the second append, and the two stores. -/
theorem RN.fin {c : Nat} {wr Wa w2 Wb w3 : World} {p : Nat} {vn vs v' u' : Value} {M T M' T' : List ByteArray} (h : RN c wr p vn vs M T) (fa : Fr no wr Wa) (hc : c ≤ wr.heap.size) (s : Sp vn Wa v' w2) (o : OwnG elS w2 v' M') (fb : Fr no w2 Wb) (s2 : Sp vs Wb u' w3) (o2 : OwnG elS w3 u' T') :
    w3.heap[p]? = some (.cells #[vn, vs] 37 (0, 0)) ∧ RN c ((w3.setCell ⟨p, 0, none⟩ v').setCell ⟨p, 1, none⟩ u') p v' u' M' T' ∧ Fr (From c) wr ((w3.setCell ⟨p, 0, none⟩ v').setCell ⟨p, 1, none⟩ u') := by
  obtain ⟨k1, k2, k3, k4, k5⟩ := h.mid fa hc s
  have hpb : Wb.heap[p]? = some (.cells #[vn, vs] 37 (0, 0)) := fb.heap k1 (fun f => f)
  have p3 : w3.heap[p]? = some (.cells #[vn, vs] 37 (0, 0)) := s2.1.heap hpb h.notp2
  have v3 : OwnG elS w3 v' M' := (o.keep fb).kept s2.1 (fun k hk e => k5 k hk e)
  have nu : ∀ k, u'.ownBlock = some k → c ≤ k := fun k hk => by
    by_cases hlt : k < Wb.heap.size
    · exact h.new2 k (s2.2 k hlt hk)
    · have := fb.size; have := k3.size; omega
  have ap : ∀ k, v'.ownBlock = some k → u'.ownBlock ≠ some k := fun k hk e => by
    have hlt : k < Wb.heap.size := Nat.lt_of_lt_of_le (o.lt hk) fb.size
    exact k5 k hk (s2.2 k hlt e)
  have nvp : v'.ownBlock ≠ some p := fun e => by obtain ⟨cur, hc⟩ := v3.tag e; rw [p3] at hc; simp [elS] at hc
  have nup : u'.ownBlock ≠ some p := fun e => by obtain ⟨cur, hc⟩ := o2.tag e; rw [p3] at hc; simp [elS] at hc
  have f1 : Fr (fun k => k = p) w3 (w3.setCell ⟨p, 0, none⟩ v') := (Fr.refl (fun k => k = p) w3).setCell (p := ⟨p, 0, none⟩) (fun _ => rfl) v'
  have f2 : Fr (fun k => k = p) w3 ((w3.setCell ⟨p, 0, none⟩ v').setCell ⟨p, 1, none⟩ u') := f1.setCell (p := ⟨p, 1, none⟩) (fun _ => rfl) u'
  refine ⟨p3, ⟨set_two (set_one p3), v3.kept f2 (fun k hk e => nvp (by rw [hk, e])), o2.kept f2 (fun k hk e => nup (by rw [hk, e])), h.newp, k4, nu, ap⟩, ?_⟩
  have g1 : Fr (From c) wr w3 := k3.trans (fb.trans s2.1 (U := From c) (fun _ _ f => f.elim) (fun i _ e => h.new2 i e)) (fun _ _ f => f) (fun _ _ f => f)
  exact g1.trans f2 (fun _ _ f => f) (fun i _ e => by have := h.newp; show c ≤ i; omega)

/-- A text of a new one-cell row. -/
theorem src_blk (w : World) (b : Nat) (x : ByteArray) (h : w.heap[b]? = some (.cells #[.string x] 9 (0, 0))) : Src Try.prog 1 22 (.slice (some ⟨b, 0, none⟩) 1 1) ([x] : List ByteArray).length (cg elS [x]) w :=
  Src.ofSlice _ elS_ok.und _ _ _ _ (by simp [cg]) (fun j u hj => by
    rw [Addr.add_lit]
    unfold World.cell?
    simp only [h]
    simpa [cg, elS] using hj) (cg_one elS_ok _)

/-- The texts of those above. -/
def supS (supers : List ByteArray) : List ByteArray := [ByteArray.empty, obj] ++ supers.map supOf
end Go.Proofs.Ytabiagheflkiaaa
