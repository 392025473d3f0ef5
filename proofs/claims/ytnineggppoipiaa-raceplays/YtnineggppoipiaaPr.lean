/- The program's watch: acquire and release. -/
import Derived.Test.YtnineggppoipiaaPq
import Derived.Test.YtnineggppoipiaaRc
namespace Go.Proofs.Ytnineggppoipiaa
open Go.ChangeShapes Go.WideShapes Go.ChangeAt Go.RowKit

def acqP (F : Cm) (t : Int) (q : Pk) : Cm := if isB t then putP F (th t) (joinC (nowP F t.toNat) (getP F q)) else F

set_option maxRecDepth 100000 in
set_option maxHeartbeats 1000000 in
theorem pacq_any {c : Nat} (w : World) (p : Nat) (F : Cm) (n : Int) (k : Nat) (h : PW c w p F n k) (hk : k ≤ 1000) (t : Int) (q : Pk) (hq : q.Ok) (hb1 : Bd (getP F q)) (hb2 : ∀ t : Nat, Bd (nowP F t)) :
    Calls Try.prog 39 #[.pointer (some ⟨p, 0, none⟩), .int .i64 t, pkV q] w fun e w' => e = .returned (.tuple #[]) ∧ PW c w' p (acqP F t q) n (k + 1) ∧ Fr (TW c w) w w' := by
  have IS := isT_any
  obtain ⟨W, b5, eW, e5, H5, F0⟩ := box1 w (pkL q).toArray 66
  have HP : Hid (PW c W p F n k) := h.keep F0
  have H0 : Hid (_ ∧ _) := ⟨eW, e5⟩
  have HH : Hid (_ ∧ _) := ⟨H5, F0⟩
  clear eW e5 H5 F0 h
  have f0 : Fr no W W.drew := (Fr.refl _ W).drew
  unfold pkL at H0
  cases h1 : isB t
  · have hT : acqP F t q = F := by unfold acqP; rw [h1, if_neg Bool.false_ne_true]
    rw [hT]
    clear hT
    have I1 := IS W t
    rw [h1] at I1
    clear IS h1
    unfold pkV
    go_enter Try.func39, Try.ntmps39
    go_upto_region 1 with fail
    rw [H0.out.1, H0.out.2]
    clear H0
    go_wp2_with fail
    refine I1.mono ?_
    rintro _ w1 ⟨rfl, hw1⟩
    subst hw1
    have HX : Hid (_ ∧ _) := ⟨HP.out.up (Nat.le_succ k), HH.out.2.up (S := TW c w)⟩
    go_wp2_with fail
    exact bodyPost_end (v := .tuple #[]) (by kernel_rfl) rfl ⟨rfl, HX.out.1, HX.out.2⟩
  · obtain ⟨tn, rfl, ht, ht0⟩ := isB_nat h1
    have hT : acqP F (tn : Int) q = putP F (th tn) (joinC (nowP F tn) (getP F q)) := by unfold acqP; rw [h1]; rfl
    rw [hT]
    clear hT
    have I1 := IS W tn
    rw [h1] at I1
    clear IS h1
    obtain ⟨v, c0, -, hM, -⟩ := HP.out.cells
    have HM : Hid (MV c W v k F) := hM
    clear hM
    unfold pkV
    go_enter Try.func39, Try.ntmps39
    go_upto_region 1 with fail
    rw [H0.out.1, H0.out.2]
    clear H0
    go_wp2_with fail
    refine I1.mono ?_
    rintro _ w1 ⟨rfl, hw1⟩
    subst hw1
    go_upto_region 2 with fail
    refine late_begin (S := fun w' => w' = w1.drew) (g := 8) (by kernel_rfl) ?_
    refine lateP 0 (.pointer (some ⟨p, 0, none⟩)) rfl (fun _ => ev_move 0 _ rfl (by kernel_rfl)) (fun _ => rfl) ?_
    refine lateP 1 (.int .i64 (tn : Int)) rfl (fun _ => ev_move 1 _ rfl (by kernel_rfl)) (fun _ => rfl) ?_
    refine lateP 2 (.pointer (some ⟨p, 0, none⟩)) rfl (fun _ => ev_move 0 _ rfl (by kernel_rfl)) (fun _ => rfl) ?_
    refine lateP 3 (.pointer (some ⟨p, 0, none⟩)) rfl (fun _ => ev_nil 10 ⟨p, 0, none⟩ rfl (by kernel_rfl)) (fun _ => rfl) ?_
    refine lateP 4 (.pointer (some ⟨p, 0, none⟩)) rfl (fun _ => ev_field 58 11 0 (.pointer (some ⟨p, 0, none⟩)) _ rfl (by kernel_rfl) (by kernel_rfl)) (fun _ => rfl) ?_
    refine lateN #[true, true, true, true, true, false, false, false, false] ⟨#[.pointer (some ⟨p, 0, none⟩), .int .i64 (tn : Int), .agg #[.int .i64 q.k, .int .i64 q.t, .int .i64 q.a, .int .i64 q.i], undef, undef, .pointer (some ⟨b5, 0, none⟩), .int .i64 (tn : Int), .bool true, .pointer (some ⟨p, 0, none⟩), .int .i64 (tn : Int), .pointer (some ⟨p, 0, none⟩), .pointer (some ⟨p, 0, none⟩), .pointer (some ⟨p, 0, none⟩), undef, undef, undef, undef], []⟩ ?_
    refine lateC 5 [7] (v) rfl (fun wz hz => ev_load 56 12 (.pointer (some ⟨p, 0, none⟩)) v rfl (by kernel_rfl) (hz ▸ ld56 c0)) rfl ?_
    refine lateN #[true, true, true, true, true, true, false, false, false] ⟨#[.pointer (some ⟨p, 0, none⟩), .int .i64 (tn : Int), .agg #[.int .i64 q.k, .int .i64 q.t, .int .i64 q.a, .int .i64 q.i], undef, undef, .pointer (some ⟨b5, 0, none⟩), .int .i64 (tn : Int), .bool true, .pointer (some ⟨p, 0, none⟩), .int .i64 (tn : Int), .pointer (some ⟨p, 0, none⟩), .pointer (some ⟨p, 0, none⟩), .pointer (some ⟨p, 0, none⟩), v, undef, undef, undef], []⟩ ?_
    refine lateC 6 [7] (pkV q) rfl (fun wz hz => ev_load 66 5 (.pointer (some ⟨b5, 0, none⟩)) (pkV q) rfl (by kernel_rfl) (hz ▸ ld66 HH.out.1)) rfl ?_
    refine lateN #[true, true, true, true, true, true, true, false, false] ⟨#[.pointer (some ⟨p, 0, none⟩), .int .i64 (tn : Int), .agg #[.int .i64 q.k, .int .i64 q.t, .int .i64 q.a, .int .i64 q.i], undef, undef, .pointer (some ⟨b5, 0, none⟩), .int .i64 (tn : Int), .bool true, .pointer (some ⟨p, 0, none⟩), .int .i64 (tn : Int), .pointer (some ⟨p, 0, none⟩), .pointer (some ⟨p, 0, none⟩), .pointer (some ⟨p, 0, none⟩), v, pkV q, undef, undef], []⟩ ?_
    refine lateC 7 [] (ckV (getP F q)) rfl (fun wz hz => ev_lookup 56 13 14 false v (pkV q) _ rfl (by kernel_rfl) (by kernel_rfl) (hz ▸ HM.out.look f0 hq)) rfl ?_
    refine lateN #[true, true, true, true, true, true, true, true, false] ⟨#[.pointer (some ⟨p, 0, none⟩), .int .i64 (tn : Int), .agg #[.int .i64 q.k, .int .i64 q.t, .int .i64 q.a, .int .i64 q.i], undef, undef, .pointer (some ⟨b5, 0, none⟩), .int .i64 (tn : Int), .bool true, .pointer (some ⟨p, 0, none⟩), .int .i64 (tn : Int), .pointer (some ⟨p, 0, none⟩), .pointer (some ⟨p, 0, none⟩), .pointer (some ⟨p, 0, none⟩), v, pkV q, ckV (getP F q), undef], []⟩ ?_
    refine late_all [8] (by kernel_rfl) (by simp) (fun jj hjj => ?_)
    simp only [List.mem_singleton] at hjj
    subst hjj
    refine late_call rfl rfl (by kernel_rfl) ((learn_any w1.drew p F n k (HP.out.keep f0) hk tn ht0 ht (getP F q) hb1 (hb2 tn)).mono fun e w' h => (⟨_, h.1, rfl, h.2⟩ : ∃ v, e = .returned v ∧ (v = .tuple #[] ∧ _))) ?_
    rintro v2 w3 ⟨rfl, R3, F3⟩
    have HX : Hid (_ ∧ _) := ⟨R3, ((HH.out.2.and f0).up (S := TW c w)).tw F3⟩
    clear R3 F3
    refine ⟨fun h => by simp at h, ?_⟩
    refine lateN #[true, true, true, true, true, true, true, true, true] ⟨#[.pointer (some ⟨p, 0, none⟩), .int .i64 (tn : Int), .agg #[.int .i64 q.k, .int .i64 q.t, .int .i64 q.a, .int .i64 q.i], undef, undef, .pointer (some ⟨b5, 0, none⟩), .int .i64 (tn : Int), .bool true, .pointer (some ⟨p, 0, none⟩), .int .i64 (tn : Int), .pointer (some ⟨p, 0, none⟩), .pointer (some ⟨p, 0, none⟩), .pointer (some ⟨p, 0, none⟩), v, pkV q, ckV (getP F q), .tuple #[]], []⟩ ?_
    refine late_done (by kernel_rfl) ?_
    exact bodyPost_end (v := .tuple #[]) (by kernel_rfl) rfl ⟨rfl, HX.out.1, HX.out.2⟩

def relP (F : Cm) (t : Int) (q : Pk) : Cm :=
  if isB t then putP (putP F q (joinC (getP F q) (nowP F t.toNat))) (th t) (tickC (nowP (putP F q (joinC (getP F q) (nowP F t.toNat))) t.toNat) t.toNat) else F

set_option maxRecDepth 100000 in
set_option maxHeartbeats 1000000 in
theorem prel_any {c : Nat} (w : World) (p : Nat) (F : Cm) (n : Int) (k : Nat) (h : PW c w p F n k) (hk : k ≤ 999) (t : Int) (q : Pk) (hq : q.Ok) (hb1 : Bd (getP F q)) (hb2 : ∀ t : Nat, Bd (nowP F t)) (hb3 : ∀ t : Nat, Bd (nowP (putP F q (joinC (getP F q) (nowP F t))) t)) :
    Calls Try.prog 41 #[.pointer (some ⟨p, 0, none⟩), .int .i64 t, pkV q] w fun e w' => e = .returned (.tuple #[]) ∧ PW c w' p (relP F t q) n (k + 2) ∧ Fr (TW c w) w w' := by
  have IS := isT_any
  obtain ⟨W, b5, eW, e5, H5, F0⟩ := box1 w (pkL q).toArray 66
  have HP : Hid (PW c W p F n k) := h.keep F0
  have H0 : Hid (_ ∧ _) := ⟨eW, e5⟩
  have HH : Hid (_ ∧ _) := ⟨H5, F0⟩
  clear eW e5 H5 F0 h
  have f0 : Fr no W W.drew := (Fr.refl _ W).drew
  unfold pkL at H0
  cases h1 : isB t
  · have hT : relP F t q = F := by unfold relP; rw [h1, if_neg Bool.false_ne_true]
    rw [hT]
    clear hT
    have I1 := IS W t
    rw [h1] at I1
    clear IS h1
    unfold pkV
    go_enter Try.func41, Try.ntmps41
    go_upto_region 1 with fail
    rw [H0.out.1, H0.out.2]
    clear H0
    go_wp2_with fail
    refine I1.mono ?_
    rintro _ w1 ⟨rfl, hw1⟩
    subst hw1
    have HX : Hid (_ ∧ _) := ⟨HP.out.up (by omega : k ≤ k + 2), HH.out.2.up (S := TW c w)⟩
    go_wp2_with fail
    exact bodyPost_end (v := .tuple #[]) (by kernel_rfl) rfl ⟨rfl, HX.out.1, HX.out.2⟩
  · obtain ⟨tn, rfl, ht, ht0⟩ := isB_nat h1
    have hT : relP F (tn : Int) q = putP (putP F q (joinC (getP F q) (nowP F tn))) (th tn) (tickC (nowP (putP F q (joinC (getP F q) (nowP F tn))) tn) tn) := by unfold relP; rw [h1]; rfl
    rw [hT]
    clear hT
    have I1 := IS W tn
    rw [h1] at I1
    clear IS h1
    obtain ⟨v, c0, -, hM, -⟩ := HP.out.cells
    have HM : Hid (MV c W v k F) := hM
    clear hM
    unfold pkV
    go_enter Try.func41, Try.ntmps41
    go_upto_region 1 with fail
    rw [H0.out.1, H0.out.2]
    clear H0
    go_wp2_with fail
    refine I1.mono ?_
    rintro _ w1 ⟨rfl, hw1⟩
    subst hw1
    go_upto_region 2 with fail
    refine late_begin (S := fun w' => Fr no w1 w') (g := 12) (by kernel_rfl) ?_
    refine lateP 0 (.pointer (some ⟨p, 0, none⟩)) rfl (fun _ => ev_move 0 _ rfl (by kernel_rfl)) (fun _ => f0) ?_
    refine lateP 2 (.pointer (some ⟨p, 0, none⟩)) rfl (fun _ => ev_move 0 _ rfl (by kernel_rfl)) (fun _ => f0) ?_
    refine lateP 3 (.pointer (some ⟨p, 0, none⟩)) rfl (fun _ => ev_nil 10 ⟨p, 0, none⟩ rfl (by kernel_rfl)) (fun _ => f0) ?_
    refine lateP 4 (.pointer (some ⟨p, 0, none⟩)) rfl (fun _ => ev_field 58 11 0 (.pointer (some ⟨p, 0, none⟩)) _ rfl (by kernel_rfl) (by kernel_rfl)) (fun _ => f0) ?_
    refine lateP 8 (.pointer (some ⟨p, 0, none⟩)) rfl (fun _ => ev_move 0 _ rfl (by kernel_rfl)) (fun _ => f0) ?_
    refine lateP 9 (.int .i64 (tn : Int)) rfl (fun _ => ev_move 1 _ rfl (by kernel_rfl)) (fun _ => f0) ?_
    refine lateN #[true, false, true, true, true, false, false, false, true, true, false, false, false] ⟨#[.pointer (some ⟨p, 0, none⟩), .int .i64 (tn : Int), .agg #[.int .i64 q.k, .int .i64 q.t, .int .i64 q.a, .int .i64 q.i], undef, undef, .pointer (some ⟨b5, 0, none⟩), .int .i64 (tn : Int), .bool true, .pointer (some ⟨p, 0, none⟩), undef, .pointer (some ⟨p, 0, none⟩), .pointer (some ⟨p, 0, none⟩), .pointer (some ⟨p, 0, none⟩), undef, undef, undef, .pointer (some ⟨p, 0, none⟩), .int .i64 (tn : Int), undef, undef, undef, undef, undef, undef], []⟩ ?_
    refine lateC 1 [] (pkV q) rfl (fun wz hz => ev_load 66 5 (.pointer (some ⟨b5, 0, none⟩)) (pkV q) rfl (by kernel_rfl) (ld66 (hz.heap HH.out.1 (fun x => x)))) f0 ?_
    refine lateN #[true, true, true, true, true, false, false, false, true, true, false, false, false] ⟨#[.pointer (some ⟨p, 0, none⟩), .int .i64 (tn : Int), .agg #[.int .i64 q.k, .int .i64 q.t, .int .i64 q.a, .int .i64 q.i], undef, undef, .pointer (some ⟨b5, 0, none⟩), .int .i64 (tn : Int), .bool true, .pointer (some ⟨p, 0, none⟩), pkV q, .pointer (some ⟨p, 0, none⟩), .pointer (some ⟨p, 0, none⟩), .pointer (some ⟨p, 0, none⟩), undef, undef, undef, .pointer (some ⟨p, 0, none⟩), .int .i64 (tn : Int), undef, undef, undef, undef, undef, undef], []⟩ ?_
    refine lateC 5 [7, 11] (v) rfl (fun wz hz => ev_load 56 12 (.pointer (some ⟨p, 0, none⟩)) v rfl (by kernel_rfl) (ld56 (hz.cell c0 (fun x => x)))) f0 ?_
    refine lateN #[true, true, true, true, true, true, false, false, true, true, false, false, false] ⟨#[.pointer (some ⟨p, 0, none⟩), .int .i64 (tn : Int), .agg #[.int .i64 q.k, .int .i64 q.t, .int .i64 q.a, .int .i64 q.i], undef, undef, .pointer (some ⟨b5, 0, none⟩), .int .i64 (tn : Int), .bool true, .pointer (some ⟨p, 0, none⟩), pkV q, .pointer (some ⟨p, 0, none⟩), .pointer (some ⟨p, 0, none⟩), .pointer (some ⟨p, 0, none⟩), v, undef, undef, .pointer (some ⟨p, 0, none⟩), .int .i64 (tn : Int), undef, undef, undef, undef, undef, undef], []⟩ ?_
    refine lateC 6 [7, 11] (pkV q) rfl (fun wz hz => ev_load 66 5 (.pointer (some ⟨b5, 0, none⟩)) (pkV q) rfl (by kernel_rfl) (ld66 (hz.heap HH.out.1 (fun x => x)))) f0 ?_
    refine lateN #[true, true, true, true, true, true, true, false, true, true, false, false, false] ⟨#[.pointer (some ⟨p, 0, none⟩), .int .i64 (tn : Int), .agg #[.int .i64 q.k, .int .i64 q.t, .int .i64 q.a, .int .i64 q.i], undef, undef, .pointer (some ⟨b5, 0, none⟩), .int .i64 (tn : Int), .bool true, .pointer (some ⟨p, 0, none⟩), pkV q, .pointer (some ⟨p, 0, none⟩), .pointer (some ⟨p, 0, none⟩), .pointer (some ⟨p, 0, none⟩), v, pkV q, undef, .pointer (some ⟨p, 0, none⟩), .int .i64 (tn : Int), undef, undef, undef, undef, undef, undef], []⟩ ?_
    refine lateC 7 [11] (ckV (getP F q)) rfl (fun wz hz => ev_lookup 56 13 14 false v (pkV q) _ rfl (by kernel_rfl) (by kernel_rfl) (HM.out.look hz hq)) f0 ?_
    refine lateN #[true, true, true, true, true, true, true, true, true, true, false, false, false] ⟨#[.pointer (some ⟨p, 0, none⟩), .int .i64 (tn : Int), .agg #[.int .i64 q.k, .int .i64 q.t, .int .i64 q.a, .int .i64 q.i], undef, undef, .pointer (some ⟨b5, 0, none⟩), .int .i64 (tn : Int), .bool true, .pointer (some ⟨p, 0, none⟩), pkV q, .pointer (some ⟨p, 0, none⟩), .pointer (some ⟨p, 0, none⟩), .pointer (some ⟨p, 0, none⟩), v, pkV q, ckV (getP F q), .pointer (some ⟨p, 0, none⟩), .int .i64 (tn : Int), undef, undef, undef, undef, undef, undef], []⟩ ?_
    refine late_all [10] (by kernel_rfl) (by simp) (fun jj hjj => ?_)
    simp only [List.mem_singleton] at hjj
    subst hjj
    refine late_call rfl rfl (by kernel_rfl) ((now_any w1.drew p F n k (HP.out.keep f0) tn ht0 ht).mono fun e w' h => (⟨_, h.1, rfl, h.2⟩ : ∃ v, e = .returned v ∧ (v = ckV (nowP F tn) ∧ Fr no w1.drew w'))) ?_
    rintro v2 w2 ⟨rfl, F2⟩
    have f2 : Fr no w1 w2 := f0.and F2
    refine ⟨fun _ => f2, ?_⟩
    refine lateN #[true, true, true, true, true, true, true, true, true, true, true, false, false] ⟨#[.pointer (some ⟨p, 0, none⟩), .int .i64 (tn : Int), .agg #[.int .i64 q.k, .int .i64 q.t, .int .i64 q.a, .int .i64 q.i], undef, undef, .pointer (some ⟨b5, 0, none⟩), .int .i64 (tn : Int), .bool true, .pointer (some ⟨p, 0, none⟩), pkV q, .pointer (some ⟨p, 0, none⟩), .pointer (some ⟨p, 0, none⟩), .pointer (some ⟨p, 0, none⟩), v, pkV q, ckV (getP F q), .pointer (some ⟨p, 0, none⟩), .int .i64 (tn : Int), ckV (nowP F tn), undef, undef, undef, undef, undef], []⟩ ?_
    refine late_all [11] (by kernel_rfl) (by simp) (fun jj hjj => ?_)
    simp only [List.mem_singleton] at hjj
    subst hjj
    refine late_call rfl rfl (by kernel_rfl) ((pjoin_any w2 (getP F q) (nowP F tn) hb1 (hb2 tn)).mono fun e w' h => (⟨_, h.1, rfl, h.2⟩ : ∃ v, e = .returned v ∧ (v = ckV (joinC (getP F q) (nowP F tn)) ∧ Fr no w2 w'))) ?_
    rintro v2 w3 ⟨rfl, F3⟩
    have f3 : Fr no w1 w3 := f2.and F3
    refine ⟨fun _ => f3, ?_⟩
    refine lateN #[true, true, true, true, true, true, true, true, true, true, true, true, false] ⟨#[.pointer (some ⟨p, 0, none⟩), .int .i64 (tn : Int), .agg #[.int .i64 q.k, .int .i64 q.t, .int .i64 q.a, .int .i64 q.i], undef, undef, .pointer (some ⟨b5, 0, none⟩), .int .i64 (tn : Int), .bool true, .pointer (some ⟨p, 0, none⟩), pkV q, .pointer (some ⟨p, 0, none⟩), .pointer (some ⟨p, 0, none⟩), .pointer (some ⟨p, 0, none⟩), v, pkV q, ckV (getP F q), .pointer (some ⟨p, 0, none⟩), .int .i64 (tn : Int), ckV (nowP F tn), ckV (joinC (getP F q) (nowP F tn)), undef, undef, undef, undef], []⟩ ?_
    refine late_all [12] (by kernel_rfl) (by simp) (fun jj hjj => ?_)
    simp only [List.mem_singleton] at hjj
    subst hjj
    refine late_call rfl rfl (by kernel_rfl) ((keep_any w3 p F n k (HP.out.keep f3) (by omega) q hq (joinC (getP F q) (nowP F tn))).mono fun e w' h => (⟨_, h.1, rfl, h.2⟩ : ∃ v, e = .returned v ∧ (v = .tuple #[] ∧ _))) ?_
    rintro v2 w4 ⟨rfl, R4, F4⟩
    have TK := tick_any w4 p _ n (k + 1) R4 (by omega) tn ht0 ht (hb3 tn)
    have HX : Hid _ := ((HH.out.2.and f3).up (S := TW c w)).tw F4
    clear R4 F4
    refine ⟨fun h => by simp at h, ?_⟩
    refine lateN #[true, true, true, true, true, true, true, true, true, true, true, true, true] ⟨#[.pointer (some ⟨p, 0, none⟩), .int .i64 (tn : Int), .agg #[.int .i64 q.k, .int .i64 q.t, .int .i64 q.a, .int .i64 q.i], undef, undef, .pointer (some ⟨b5, 0, none⟩), .int .i64 (tn : Int), .bool true, .pointer (some ⟨p, 0, none⟩), pkV q, .pointer (some ⟨p, 0, none⟩), .pointer (some ⟨p, 0, none⟩), .pointer (some ⟨p, 0, none⟩), v, pkV q, ckV (getP F q), .pointer (some ⟨p, 0, none⟩), .int .i64 (tn : Int), ckV (nowP F tn), ckV (joinC (getP F q) (nowP F tn)), .tuple #[], undef, undef, undef], []⟩ ?_
    refine late_done (by kernel_rfl) ?_
    show Exit.then _ _ Exit.normal _ _
    go_wp2_with fail
    refine TK.mono ?_
    rintro _ w5 ⟨rfl, R5, F5⟩
    have HY : Hid (_ ∧ _) := ⟨R5, HX.out.tw F5⟩
    clear R5 F5 TK
    go_wp2_with fail
    exact bodyPost_end (v := .tuple #[]) (by kernel_rfl) rfl ⟨rfl, HY.out.1, HY.out.2⟩
end Go.Proofs.Ytnineggppoipiaa
