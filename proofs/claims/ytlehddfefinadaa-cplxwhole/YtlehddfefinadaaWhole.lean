/- What package cplx answers at parts that are small whole numbers: sums, differences, products and norms are exact there. -/
import Derived.Test.YtlehddfefinadaaParse
namespace Go.Proofs.Ytlehddfefinadaa
open Go.ChangeShapes Go.WideShapes Go.ChangeAt Go.RowKit
open Ieee (double)

theorem rep_zero : Rep 0 0 := ⟨false, by decide, fun h => absurd rfl h⟩
theorem rep_one : Rep 4607182418800017408 1 := ⟨false, by decide, fun _ => by decide⟩

theorem out_mul {a b r : Nat} {n m : Int} (ha : Rep a n) (hb : Rep b m) (hn : small n) (hm : small m) (hr : small (n * m)) (h : Out (double.mul a b) r) : Rep r (n * m) := by
  obtain ⟨v, e, hv⟩ := rep_mul ha hb hn hm hr
  rw [e] at h
  rw [h.some]
  exact hv
theorem out_add {a b r : Nat} {n m : Int} (ha : Rep a n) (hb : Rep b m) (hn : small n) (hm : small m) (hr : small (n + m)) (h : Out (double.add a b) r) : Rep r (n + m) := by
  obtain ⟨v, e, hv⟩ := rep_add ha hb hn hm hr
  rw [e] at h
  rw [h.some]
  exact hv
theorem out_sub {a b r : Nat} {n m : Int} (ha : Rep a n) (hb : Rep b m) (hn : small n) (hm : small m) (hr : small (n - m)) (h : Out (double.sub a b) r) : Rep r (n - m) := by
  obtain ⟨v, e, hv⟩ := rep_sub ha hb hn hm hr
  rw [e] at h
  rw [h.some]
  exact hv

theorem prod_rep {a b c d re im : Nat} {n m p q : Int} (ha : Rep a n) (hb : Rep b m) (hc : Rep c p) (hd : Rep d q) (hn : small n) (hm : small m) (hp : small p) (hq : small q)
    (h1 : small (n * p)) (h2 : small (m * q)) (h3 : small (n * q)) (h4 : small (m * p)) (h5 : small (n * p - m * q)) (h6 : small (n * q + m * p)) (h : Prod a b c d re im) : Rep re (n * p - m * q) ∧ Rep im (n * q + m * p) := by
  obtain ⟨t1, t2, t3, t4, o1, o2, o3, o4, o5, o6⟩ := h
  exact ⟨out_sub (out_mul ha hc hn hp h1 o1) (out_mul hb hd hm hq h2 o2) h1 h2 h5 o3, out_add (out_mul ha hd hn hq h3 o4) (out_mul hb hc hm hp h4 o5) h3 h4 h6 o6⟩

theorem turn {a b re im : Nat} {n m : Int} (ha : Rep a n) (hb : Rep b m) (hn : small n) (hm : small m) (h : Prod a b 0 4607182418800017408 re im) : Rep re (-m) ∧ Rep im n := by
  have h0 : small 0 := by unfold small; decide
  have h1 : small 1 := by unfold small; decide
  have hm' : small (-m) := by unfold small at *; omega
  have := prod_rep ha hb rep_zero rep_one hn hm h0 h1 (by simpa using h0) (by simpa using hm) (by simpa using hn) (by simpa using h0) (by simpa using hm') (by simpa using hn) h
  simpa using this

theorem norm_rep {a b r : Nat} {n m : Int} (ha : Rep a n) (hb : Rep b m) (hn : small n) (hm : small m) (h1 : small (n * n)) (h2 : small (m * m)) (h3 : small (n * n + m * m)) (h : Nrm a b r) : Rep r (n * n + m * m) := by
  obtain ⟨t1, t2, o1, o2, o3⟩ := h
  exact out_add (out_mul ha ha hn hn h1 o1) (out_mul hb hb hm hm h2 o2) h1 h2 h3 o3

theorem norm_turned {a b a' b' r r' : Nat} {n m : Int} (ha : Rep a n) (hb : Rep b m) (ha' : Rep a' (-m)) (hb' : Rep b' n) (hn : small n) (hm : small m) (h : Nrm a b r) (h' : Nrm a' b' r') : double.order r' r = some .eq := by
  obtain ⟨t1, t2, o1, o2, o3⟩ := h
  obtain ⟨s1, s2, p1, p2, p3⟩ := h'
  have hm' : small (-m) := by unfold small at *; omega
  rw [square_same ha' hb hm' (by omega)] at p1
  rw [square_same hb' ha hn rfl] at p2
  obtain ⟨x, ex, hx⟩ := square_pos ha hn
  obtain ⟨y, ey, hy⟩ := square_pos hb hm
  rw [ex] at o1 p2
  rw [ey] at o2 p1
  obtain rfl := o1.some
  obtain rfl := o2.some
  obtain rfl := p1.some
  obtain rfl := p2.some
  obtain ⟨z, ez, hz⟩ := pos_add hx hy
  rw [ez] at o3
  rw [add_comm', ez] at p3
  rw [o3.some, p3.some]
  exact order_self hz
end Go.Proofs.Ytlehddfefinadaa
