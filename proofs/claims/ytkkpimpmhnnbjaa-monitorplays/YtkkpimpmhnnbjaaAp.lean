/- A lock's lists grow. -/
import Derived.Test.YtkkpimpmhnnbjaaHn
namespace Go.Proofs.Ytkkpimpmhnnbjaa
open Go.ChangeShapes Go.WideShapes Go.ChangeAt Go.RowKit

theorem setE {w : World} {q : Nat} {x : Lk} {e v e' : Value} {l : List (Int × Int)} (h : w.heap[q]? = some (.cells (lkC x e v) 66 (0, 0))) :
    (w.setCell ⟨q, 3, none⟩ e').heap[q]? = some (.cells (lkC { x with entry := l } e' v) 66 (0, 0)) := by
  unfold World.setCell
  simp [Array.getElem?_modify, h, lkC]

theorem setV {w : World} {q : Nat} {x : Lk} {e v v' : Value} {l : List (Int × Int)} (h : w.heap[q]? = some (.cells (lkC x e v) 66 (0, 0))) :
    (w.setCell ⟨q, 4, none⟩ v').heap[q]? = some (.cells (lkC { x with wait := l } e v') 66 (0, 0)) := by
  unfold World.setCell
  simp [Array.getElem?_modify, h, lkC]

section
variable {c : Nat} {w : World} {p n m1 m2 : Nat} {F : Int → Option Lay} {S : Int → Option Lk} {N : Int → Int}

theorem TP.app3 (h : TP c w p n m1 m2 F S N) {a : Int} {y : Lay} (hy : F a = some y) {x : Lk} (hx : S a = some x) {v' : Value} {w3 : World} {l : List (Int × Int)} (o : OwnG elW w3 v' l) (s : Sp y.e w v' w3) :
    w3.cell? ⟨y.q, 3, none⟩ = some y.e ∧ w3.frozen? ⟨y.q, 3, none⟩ = false ∧
      TP c (w3.setCell ⟨y.q, 3, none⟩ v') p n m1 m2 (upd F a (some ⟨y.q, v', y.v⟩)) (upd S a (some { x with entry := l })) N ∧ Fr (Tm c w) w (w3.setCell ⟨y.q, 3, none⟩ v') := by
  obtain ⟨x2, hx2, h1, h2, h3, h4, h5, h6⟩ := h.lay hy
  rw [hx] at hx2
  obtain rfl := Option.some.inj hx2
  have aw := h.away hy
  have hq3 : w3.heap[y.q]? = some (.cells (lkC x y.e y.v) 66 (0, 0)) := s.1.heap h2 (fun e => aw.2.2.2.2 a y _ hy (.inl e) rfl)
  have fs := fr_set w3 y.q 3 v'
  have hvq : ∀ b, v'.ownBlock = some b → b ≠ y.q := fun b hb e => by
    obtain ⟨cur, hc⟩ := o.tag hb
    rw [e, hq3] at hc
    simp [elW] at hc
  refine ⟨(cells5 hq3).2.2.2.1, thaw hq3 3, h.put hy { x with entry := l } v' y.v (s.1.trans fs (fun _ _ e => .inr (.inl e)) (fun _ _ e => .inl e)) (setE hq3) (o.kept fs hvq) ((h4.kept s.1 (fun b hb e => (h.apart a a y y hy hy).2.1 b e hb)).kept fs (fun b hb e => aw.2.2.2.2 a y b hy (.inr hb) e)) s.2 (fun _ _ hb => hb) (fun b hb hb' => ?_)⟩
  have := h4.lt hb'
  exact (h.apart a a y y hy hy).2.1 b (s.2 b this hb) hb'

theorem TP.app4 (h : TP c w p n m1 m2 F S N) {a : Int} {y : Lay} (hy : F a = some y) {x : Lk} (hx : S a = some x) {v' : Value} {w3 : World} {l : List (Int × Int)} (o : OwnG elW w3 v' l) (s : Sp y.v w v' w3) :
    w3.cell? ⟨y.q, 4, none⟩ = some y.v ∧ w3.frozen? ⟨y.q, 4, none⟩ = false ∧
      TP c (w3.setCell ⟨y.q, 4, none⟩ v') p n m1 m2 (upd F a (some ⟨y.q, y.e, v'⟩)) (upd S a (some { x with wait := l })) N ∧ Fr (Tm c w) w (w3.setCell ⟨y.q, 4, none⟩ v') := by
  obtain ⟨x2, hx2, h1, h2, h3, h4, h5, h6⟩ := h.lay hy
  rw [hx] at hx2
  obtain rfl := Option.some.inj hx2
  have aw := h.away hy
  have hq3 : w3.heap[y.q]? = some (.cells (lkC x y.e y.v) 66 (0, 0)) := s.1.heap h2 (fun e => aw.2.2.2.2 a y _ hy (.inr e) rfl)
  have fs := fr_set w3 y.q 4 v'
  have hvq : ∀ b, v'.ownBlock = some b → b ≠ y.q := fun b hb e => by
    obtain ⟨cur, hc⟩ := o.tag hb
    rw [e, hq3] at hc
    simp [elW] at hc
  refine ⟨(cells5 hq3).2.2.2.2, thaw hq3 4, h.put hy { x with wait := l } y.e v' (s.1.trans fs (fun _ _ e => .inr (.inr e)) (fun _ _ e => .inl e)) (setV hq3) ((h3.kept s.1 (fun b hb e => (h.apart a a y y hy hy).2.1 b hb e)).kept fs (fun b hb e => aw.2.2.2.2 a y b hy (.inl hb) e)) (o.kept fs hvq) (fun _ _ hb => hb) s.2 (fun b hb hb' => ?_)⟩
  have := h3.lt hb
  exact (h.apart a a y y hy hy).2.1 b hb (s.2 b this hb')
end
end Go.Proofs.Ytkkpimpmhnnbjaa
