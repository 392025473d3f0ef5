/- MonitorApart, walked. -/
import Derived.Test.YtkkpimpmhnnbjaaCw
namespace Go.Proofs.Ytkkpimpmhnnbjaa
open Go.ChangeShapes Go.WideShapes Go.ChangeAt Go.RowKit

section
variable {x y : Int}

def sA (x : Int) : St := ⟨upd (fun _ => none) x (some ⟨1, 1, false, [], []⟩), fun _ => 0⟩
def sB (x y : Int) : St := ⟨upd (upd (fun _ => none) x (some ⟨1, 1, false, [], []⟩)) y (some ⟨2, 1, false, [], []⟩), fun _ => 0⟩
def sC (x y : Int) : St := ⟨upd (upd (upd (fun _ => none) x (some ⟨1, 1, false, [], []⟩)) y (some ⟨2, 1, false, [], []⟩)) x (some ⟨1, 1, true, [(3, 1)], []⟩), upd (fun _ => 0) 3 1⟩
def sD (x y : Int) : St := ⟨upd (upd (upd (fun _ => none) x (some ⟨1, 1, false, [], []⟩)) y (some ⟨2, 1, false, [], []⟩)) x (some ⟨3, 1, true, [], []⟩), upd (upd (fun _ => 0) 3 1) 3 0⟩

theorem apA (hx : 1 ≤ x) : enR x 1 st0 = true ∧ enE x 1 st0 = 0 ∧ enS x 1 st0 = sA x := by
  unfold enR enE enS enterP
  rw [if_neg (by simp [st0]; omega)]
  exact ⟨rfl, rfl, rfl⟩

theorem apB (hy : 1 ≤ y) (hxy : y ≠ x) : enR y 2 (sA x) = true ∧ enE y 2 (sA x) = 0 ∧ enS y 2 (sA x) = sB x y := by
  have h : (sA x).S y = none := by unfold sA; simp only [upd_other _ _ hxy]
  unfold enR enE enS enterP
  rw [if_neg (by simp [sA]; omega), h]
  exact ⟨rfl, rfl, rfl⟩

theorem apC (hx : 1 ≤ x) (hxy : x ≠ y) : enR x 3 (sB x y) = false ∧ enE x 3 (sB x y) = 0 ∧ enS x 3 (sB x y) = sC x y := by
  have h : (sB x y).S x = some ⟨1, 1, false, [], []⟩ := by unfold sB; simp only [upd_other _ _ hxy, upd_same]
  unfold enR enE enS enterP
  rw [if_neg (by simp [sB]; omega), h]
  exact ⟨rfl, rfl, rfl⟩

theorem apD (hxy : y ≠ x) : exE y 1 (sC x y) = 130 ∧ exS y 1 (sC x y) = sC x y := by
  have h : (sC x y).S y = some ⟨2, 1, false, [], []⟩ := by unfold sC; simp only [upd_other _ _ hxy, upd_same]
  unfold exE exS exitP ownP
  rw [h]
  exact ⟨rfl, rfl⟩

theorem apE : enE y 3 (sC x y) = 130 ∧ enS y 3 (sC x y) = sC x y := by
  unfold enE enS enterP
  rw [if_pos (.inr (.inr (by unfold sC; simp only [upd_same]; decide)))]
  exact ⟨rfl, rfl⟩

theorem apF : exR x 1 (sC x y) = 3 ∧ exE x 1 (sC x y) = 0 ∧ exS x 1 (sC x y) = sD x y := by
  have h : (sC x y).S x = some ⟨1, 1, true, [(3, 1)], []⟩ := by unfold sC; simp only [upd_same]
  have hn : (sC x y).N 3 = 1 := by unfold sC; simp only [upd_same]
  unfold exR exE exS exitP ownP
  rw [h]
  refine ⟨rfl, rfl, ?_⟩
  have e1 : handS (sC x y).S x ⟨1, 1, true, [(3, 1)], []⟩ = (sD x y).S := by
    rw [handS_cons (e := (3, 1)) (r := []) rfl]
    unfold sC sD
    simp only [upd_upd]
  have e2 : handN (sC x y).N ⟨1, 1, true, [(3, 1)], []⟩ = (sD x y).N := by
    show upd (sC x y).N 3 ((sC x y).N 3 - 1) = _
    rw [hn]
    rfl
  show St.mk (handS (sC x y).S x ⟨1, 1, true, [(3, 1)], []⟩) (handN (sC x y).N ⟨1, 1, true, [(3, 1)], []⟩) = _
  rw [e1, e2]

theorem apY (hxy : y ≠ x) : (sD x y).S y = some ⟨2, 1, false, [], []⟩ := by unfold sD; simp only [upd_other _ _ hxy, upd_same]
theorem apX : (sD x y).S x = some ⟨3, 1, true, [], []⟩ := by unfold sD; simp only [upd_same]
theorem apO {z : Int} (h1 : z ≠ x) (h2 : z ≠ y) : (sD x y).S z = none := by unfold sD; simp only [upd_other _ _ h1, upd_other _ _ h2]

theorem apH (hxy : y ≠ x) : HeldL (sD x y).S 2 [y] := by
  refine ⟨by simp, fun k => ?_⟩
  unfold ownP
  by_cases e1 : k = x
  · subst e1
    rw [apX]
    simp [Ne.symm hxy]
  · by_cases e2 : k = y
    · subst e2
      rw [apY hxy]
      simp
    · rw [apO e1 e2]
      simp [e2]
end

set_option maxRecDepth 100000 in
set_option maxHeartbeats 8000000 in
theorem apart_any (w : World) (a0 b0 c0 : Nat) (ha : a0 < 256) (hb : b0 < 256) (hc : c0 < 256) :
    Calls Try.prog 7 #[.int .u8 (a0 : Int), .int .u8 (b0 : Int), .int .u8 (c0 : Int)] w fun e w' => e = .returned (.bool true) ∧ Fr no w w' := by
  have KN := known_any w
  have g0 := fld0
  have g2 := fld2
  go_enter Try.func7, Try.ntmps7
  go_wp2_with fail
  refine KN.mono ?_
  rintro _ w1 ⟨rfl, f1⟩
  have NW := jNew w w1 f1
  clear f1 KN
  go_wp2_with fail
  refine NW.mono ?_
  rintro _ w2 ⟨p, rfl, j2, -⟩
  have J2 : Hid _ := j2
  clear j2 NW
  go_upto_region 5 with fail
  have hx1 : 1 ≤ (a0 : Int) + 1 ∧ (a0 : Int) + 1 ≤ 256 := by omega
  have hy1 : 1 ≤ (a0 : Int) + 2 + (b0 : Int) ∧ (a0 : Int) + 2 + (b0 : Int) ≤ 512 := by omega
  have hyx : (a0 : Int) + 2 + (b0 : Int) ≠ (a0 : Int) + 1 := by omega
  generalize (a0 : Int) + 1 = x at *
  generalize (a0 : Int) + 2 + (b0 : Int) = y at *
  have hinx : In x := ⟨by omega, by omega⟩
  have hiny : In y := ⟨by omega, by omega⟩
  have E1 := J2.out.enter (by omega) x 1 hinx ⟨by decide, by decide⟩
  obtain ⟨q1, q2, q3⟩ := apA hx1.1
  rw [q1, q2, q3] at E1
  clear q1 q2 q3 J2 ha hb
  go_wp2_with fail
  refine E1.mono ?_
  rintro _ w3 ⟨rfl, j3, -⟩
  have E2 := j3.enter (by omega) y 2 hiny ⟨by decide, by decide⟩
  obtain ⟨q1, q2, q3⟩ := apB hy1.1 hyx
  rw [q1, q2, q3] at E2
  clear q1 q2 q3 j3 E1
  go_wp2_with fail
  refine E2.mono ?_
  rintro _ w4 ⟨rfl, j4, -⟩
  have E3 := j4.enter (by omega) x 3 hinx ⟨by decide, by decide⟩
  obtain ⟨q1, q2, q3⟩ := apC hx1.1 (Ne.symm hyx)
  rw [q1, q2, q3] at E3
  clear q1 q2 q3 j4 E2
  go_wp2_with fail
  refine E3.mono ?_
  rintro _ w5 ⟨rfl, j5, -⟩
  have E4 := j5.exit (by omega) y 1 hiny
  obtain ⟨q1, q2⟩ := apD hyx
  rw [q1, q2] at E4
  generalize exR y 1 (sC x y) = r4 at E4
  clear q1 q2 j5 E3
  go_wp2_with fail
  refine E4.mono ?_
  rintro _ w6 ⟨rfl, j6, -⟩
  have E5 := j6.enter (by omega) y 3 hiny ⟨by decide, by decide⟩
  obtain ⟨q1, q2⟩ := apE (x := x) (y := y)
  rw [q1, q2] at E5
  generalize enR y 3 (sC x y) = r5 at E5
  clear q1 q2 j6 E4
  go_wp2_with fail
  refine E5.mono ?_
  rintro _ w7 ⟨rfl, j7, -⟩
  have E6 := j7.exit (by omega) x 1 hinx
  obtain ⟨q1, q2, q3⟩ := apF (x := x) (y := y)
  rw [q1, q2, q3] at E6
  clear q1 q2 q3 j7 E5
  go_wp2_with fail
  refine E6.mono ?_
  rintro _ w8 ⟨rfl, j8, -⟩
  have H8 := j8.held sortC (by omega) 2 (apH hyx)
  simp only [List.length_cons, List.length_nil, Nat.zero_add] at H8
  clear j8 E6
  have HY : Hid ((sD x y).lk y = ⟨2, 1, false, [], []⟩) := by unfold Hid St.lk; rw [apY hyx]; rfl
  have HZ : Hid ((sD x y).lk ((c0 : Int) + 1000) = lk0) := by unfold Hid St.lk; rw [apO (by omega) (by omega)]; rfl
  go_wp2_with fail
  refine H8.mono ?_
  rintro _ w9 ⟨o9, c9, rfl, h9, j9, -⟩
  have HA9 : Hid (Jt w (w9.alloc (.cells (elI.f y).toArray elI.e)) p (0 + 2 + 2 + 2 + 2 + 2 + 2) (sD x y)) := j9.keep ((Fr.refl no w9).alloc _ _)
  have IN := ints_any (w9.alloc (.cells (elI.f y).toArray elI.e)) (.slice o9 1 c9) (.slice (some ⟨w9.heap.size, 0, none⟩) 1 1) [y] [y] ((h9.keep ((Fr.refl no w9).alloc _ _)).rd elI_ok) ((own_lit elI_ok w9 [y] _ rfl (by unfold maxLen; simp)).rd elI_ok)
  rw [show sameI [y] [y] = true from decide_eq_true rfl] at IN
  clear h9 j9 H8
  go_wp2_with fail
  refine IN.mono ?_
  rintro _ w10 ⟨rfl, m10, rfl⟩
  have L1 := (HA9.out.keep ((Fr.refl no _).drewN m10)).lock (by omega) y hiny
  rw [HY.out] at L1
  simp only [] at L1
  clear IN HA9
  generalize (w9.alloc (.cells (elI.f y).toArray elI.e)).drewN m10 = w10 at *
  go_wp2_with fail
  refine L1.mono ?_
  rintro _ w11 ⟨o1, k1, c1, o2, k2, c2, rfl, -, -, -, -, j11, -⟩
  have L2 := j11.lock (by omega) ((c0 : Int) + 1000) ⟨by omega, by omega⟩
  rw [HZ.out] at L2
  unfold lk0 at L2
  simp only [] at L2
  clear j11 L1
  go_wp2_with fail
  refine L2.mono ?_
  rintro _ w12 ⟨o3, k3, c3, o4, k4, c4, rfl, -, -, -, -, j12, -⟩
  have HF : Hid _ := j12.fr
  clear j12 L2
  go_wp2_with fail
  go_ret
  exact ⟨rfl, HF.out⟩
end Go.Proofs.Ytkkpimpmhnnbjaa
