/- The program's watch: learn and tick. -/
import Derived.Test.YtnineggppoipiaaPo
import Derived.Test.YtnineggppoipiaaLc
namespace Go.Proofs.Ytnineggppoipiaa
open Go.ChangeShapes Go.WideShapes Go.ChangeAt Go.RowKit

theorem ck_lit (c : Nat → Int) : (ckL c).toArray = #[.int .i64 (c 0), .int .i64 (c 1), .int .i64 (c 2), .int .i64 (c 3), .int .i64 (c 4), .int .i64 (c 5), .int .i64 (c 6), .int .i64 (c 7), .int .i64 (c 8), .int .i64 (c 9), .int .i64 (c 10), .int .i64 (c 11), .int .i64 (c 12)] := rfl
theorem cells13 {w : World} {b : Nat} {c : Nat → Int} {t : TypeId} (h : w.heap[b]? = some (.cells (ckL c).toArray t (0, 0))) : w.cell? ⟨b, 0, none⟩ = some (.int .i64 (c 0)) ∧ w.cell? ⟨b, 1, none⟩ = some (.int .i64 (c 1)) ∧ w.cell? ⟨b, 2, none⟩ = some (.int .i64 (c 2)) ∧ w.cell? ⟨b, 3, none⟩ = some (.int .i64 (c 3)) ∧ w.cell? ⟨b, 4, none⟩ = some (.int .i64 (c 4)) ∧ w.cell? ⟨b, 5, none⟩ = some (.int .i64 (c 5)) ∧ w.cell? ⟨b, 6, none⟩ = some (.int .i64 (c 6)) ∧ w.cell? ⟨b, 7, none⟩ = some (.int .i64 (c 7)) ∧ w.cell? ⟨b, 8, none⟩ = some (.int .i64 (c 8)) ∧ w.cell? ⟨b, 9, none⟩ = some (.int .i64 (c 9)) ∧ w.cell? ⟨b, 10, none⟩ = some (.int .i64 (c 10)) ∧ w.cell? ⟨b, 11, none⟩ = some (.int .i64 (c 11)) ∧ w.cell? ⟨b, 12, none⟩ = some (.int .i64 (c 12)) :=
  ⟨row_cell h (by decide), row_cell h (by decide), row_cell h (by decide), row_cell h (by decide), row_cell h (by decide), row_cell h (by decide), row_cell h (by decide), row_cell h (by decide), row_cell h (by decide), row_cell h (by decide), row_cell h (by decide), row_cell h (by decide), row_cell h (by decide)⟩
theorem box1 (w : World) (A : Array Value) (t : TypeId) : ∃ W b, w.alloc (.cells A t) = W ∧ w.heap.size = b ∧ W.heap[b]? = some (.cells A t (0, 0)) ∧ Fr no w W :=
  ⟨_, _, rfl, rfl, heap_alloc_new w (.cells A t), (Fr.refl no w).alloc A t⟩

set_option maxRecDepth 100000 in
set_option maxHeartbeats 1000000 in
theorem learn_any {c : Nat} (w : World) (p : Nat) (F : Cm) (n : Int) (k : Nat) (h : PW c w p F n k) (hk : k ≤ 1000) (t : Nat) (ht0 : 0 < t) (ht : t < 13) (c1 : Nat → Int) (hb1 : Bd c1) (hb2 : Bd (nowP F t)) :
    Calls Try.prog 33 #[.pointer (some ⟨p, 0, none⟩), .int .i64 (t : Int), ckV c1] w fun e w' => e = .returned (.tuple #[]) ∧ PW c w' p (putP F (th t) (joinC (nowP F t) c1)) n (k + 1) ∧ Fr (TW c w) w w' := by
  obtain ⟨W, b5, eW, e5, H5, F0⟩ := box1 w (ckL c1).toArray 61
  have HP : Hid (PW c W p F n k) := h.keep F0
  have H0 : Hid (_ ∧ _) := ⟨eW, e5⟩
  have HH : Hid (_ ∧ _) := ⟨H5, F0⟩
  clear eW e5 H5 F0 h
  have f0 : Fr no W W.drew := (Fr.refl _ W).drew
  unfold ckV
  go_enter Try.func33, Try.ntmps33
  go_upto_region 1 with fail
  rw [H0.out.1, H0.out.2]
  clear H0
  refine late_begin (S := fun w' => Fr no W w') (g := 8) (by kernel_rfl) ?_
  refine lateP 0 (.pointer (some ⟨p, 0, none⟩)) rfl (fun _ => ev_move 0 _ rfl (by kernel_rfl)) (fun _ => f0) ?_
  refine lateP 1 (.int .i64 (t : Int)) rfl (fun _ => ev_move 1 _ rfl (by kernel_rfl)) (fun _ => f0) ?_
  refine lateP 2 (pkV (th t)) rfl (fun _ => by kernel_rfl) (fun _ => f0) ?_
  refine lateP 3 (.pointer (some ⟨p, 0, none⟩)) rfl (fun _ => ev_move 0 _ rfl (by kernel_rfl)) (fun _ => f0) ?_
  refine lateP 4 (.int .i64 (t : Int)) rfl (fun _ => ev_move 1 _ rfl (by kernel_rfl)) (fun _ => f0) ?_
  refine lateN #[true, true, true, true, true, false, false, false, false] ⟨#[.pointer (some ⟨p, 0, none⟩), .int .i64 (t : Int), .agg (ckL c1).toArray, undef, undef, .pointer (some ⟨b5, 0, none⟩), .pointer (some ⟨p, 0, none⟩), .int .i64 (t : Int), pkV (th t), .pointer (some ⟨p, 0, none⟩), .int .i64 (t : Int), undef, undef, undef, undef], []⟩ ?_
  refine lateC 6 [7] (ckV c1) rfl (fun wz hz => ev_load 61 5 (.pointer (some ⟨b5, 0, none⟩)) (ckV c1) rfl (by kernel_rfl) (ld_nk (range_row (hz.heap HH.out.1 (fun x => x))))) f0 ?_
  refine lateN #[true, true, true, true, true, false, true, false, false] ⟨#[.pointer (some ⟨p, 0, none⟩), .int .i64 (t : Int), .agg (ckL c1).toArray, undef, undef, .pointer (some ⟨b5, 0, none⟩), .pointer (some ⟨p, 0, none⟩), .int .i64 (t : Int), pkV (th t), .pointer (some ⟨p, 0, none⟩), .int .i64 (t : Int), undef, ckV c1, undef, undef], []⟩ ?_
  refine late_all [5] (by kernel_rfl) (by simp) (fun jj hjj => ?_)
  simp only [List.mem_singleton] at hjj
  subst hjj
  refine late_call rfl rfl (by kernel_rfl) ((now_any W.drew p F n k (HP.out.keep f0) t ht0 ht).mono fun e w' h => (⟨_, h.1, rfl, h.2⟩ : ∃ v, e = .returned v ∧ (v = ckV (nowP F t) ∧ Fr no W.drew w'))) ?_
  rintro v w1 ⟨rfl, F1⟩
  have f1 : Fr no W w1 := f0.and F1
  refine ⟨fun _ => f1, ?_⟩
  refine lateN #[true, true, true, true, true, true, true, false, false] ⟨#[.pointer (some ⟨p, 0, none⟩), .int .i64 (t : Int), .agg (ckL c1).toArray, undef, undef, .pointer (some ⟨b5, 0, none⟩), .pointer (some ⟨p, 0, none⟩), .int .i64 (t : Int), pkV (th t), .pointer (some ⟨p, 0, none⟩), .int .i64 (t : Int), ckV (nowP F t), ckV c1, undef, undef], []⟩ ?_
  refine late_all [7] (by kernel_rfl) (by simp) (fun jj hjj => ?_)
  simp only [List.mem_singleton] at hjj
  subst hjj
  refine late_call rfl rfl (by kernel_rfl) ((pjoin_any w1 (nowP F t) c1 hb2 hb1).mono fun e w' h => (⟨_, h.1, rfl, h.2⟩ : ∃ v, e = .returned v ∧ (v = ckV (joinC (nowP F t) c1) ∧ Fr no w1 w'))) ?_
  rintro v w2 ⟨rfl, F2⟩
  have f2 : Fr no W w2 := f1.and F2
  refine ⟨fun _ => f2, ?_⟩
  refine lateN #[true, true, true, true, true, true, true, true, false] ⟨#[.pointer (some ⟨p, 0, none⟩), .int .i64 (t : Int), .agg (ckL c1).toArray, undef, undef, .pointer (some ⟨b5, 0, none⟩), .pointer (some ⟨p, 0, none⟩), .int .i64 (t : Int), pkV (th t), .pointer (some ⟨p, 0, none⟩), .int .i64 (t : Int), ckV (nowP F t), ckV c1, ckV (joinC (nowP F t) c1), undef], []⟩ ?_
  refine late_all [8] (by kernel_rfl) (by simp) (fun jj hjj => ?_)
  simp only [List.mem_singleton] at hjj
  subst hjj
  refine late_call rfl rfl (by kernel_rfl) ((keep_any w2 p F n k (HP.out.keep f2) hk (th t) (th_ok ht) (joinC (nowP F t) c1)).mono fun e w' h => (⟨_, h.1, rfl, h.2⟩ : ∃ v, e = .returned v ∧ (v = .tuple #[] ∧ _))) ?_
  rintro v w3 ⟨rfl, R3, F3⟩
  have HX : Hid (_ ∧ _) := ⟨R3, ((HH.out.2.and f2).up (S := TW c w)).tw F3⟩
  clear R3 F3
  refine ⟨fun h => by simp at h, ?_⟩
  refine lateN #[true, true, true, true, true, true, true, true, true] ⟨#[.pointer (some ⟨p, 0, none⟩), .int .i64 (t : Int), .agg (ckL c1).toArray, undef, undef, .pointer (some ⟨b5, 0, none⟩), .pointer (some ⟨p, 0, none⟩), .int .i64 (t : Int), pkV (th t), .pointer (some ⟨p, 0, none⟩), .int .i64 (t : Int), ckV (nowP F t), ckV c1, ckV (joinC (nowP F t) c1), .tuple #[]], []⟩ ?_
  refine late_done (by kernel_rfl) ?_
  exact bodyPost_end (v := .tuple #[]) (by kernel_rfl) rfl ⟨rfl, HX.out.1, HX.out.2⟩

/-- A thread's own number is one more. -/
def tickC (c : Nat → Int) (t : Nat) : Nat → Int := setT c t (c t + 1)
set_option maxRecDepth 100000 in
set_option maxHeartbeats 1000000 in
theorem tick_any {c : Nat} (w : World) (p : Nat) (F : Cm) (n : Int) (k : Nat) (h : PW c w p F n k) (hk : k ≤ 1000) (t : Nat) (ht0 : 0 < t) (ht : t < 13) (hb2 : Bd (nowP F t)) :
    Calls Try.prog 35 #[.pointer (some ⟨p, 0, none⟩), .int .i64 (t : Int)] w fun e w' => e = .returned (.tuple #[]) ∧ PW c w' p (putP F (th t) (tickC (nowP F t) t)) n (k + 1) ∧ Fr (TW c w) w w' := by
  have HP : Hid (PW c w p F n k) := h
  have NW := now_any w p F n k h t ht0 ht
  clear h
  have ht1 : (0 : Int) ≤ (t : Int) := by omega
  have ht2 : (t : Int) < 13 := by omega
  generalize hc : nowP F t = c1 at *
  clear hc
  go_enter Try.func35, Try.ntmps35
  go_wp2_with fail
  refine NW.mono ?_
  rintro _ w1 ⟨rfl, F1⟩
  clear NW
  obtain ⟨W, b4, eW, e4, H4, F2⟩ := box1 w1 z13 61
  have hst := st_cells c1 (there_row (cs := z13) H4)
  have hsz := ck_size c1
  have H5 := row_sets H4 rfl c1
  have F3 := (F1.and F2).newBk (fr_sets W b4 0 (ckL c1)) (by have := F1.size; omega)
  have hwb : w.heap.size ≤ b4 := by have := F1.size; omega
  subst e4 eW
  unfold z13 at hst
  have HI : Hid (_ ∧ _) := ⟨H5, F3⟩
  clear H4 H5 F2 F3
  unfold ckV
  go_upto_region 1 with fail
  unfold z13 at HI
  refine wp_letter (fun w' => w'.heap[w1.heap.size]? = some (.cells (ckL c1).toArray 61 (0, 0)) ∧ Fr no w w') HI.out ?_
  intro W3 H3
  have HI2 : Hid (_ ∧ _) := H3
  clear H3 HI hst
  generalize w1.heap.size = b at *
  have fz := row_froz HI2.out.1
  have cc := row_cell HI2.out.1 ht
  have b1 := hb2 t
  have HS : Hid (_ ∧ _) := ⟨(by have := heap_set (o := t) (u := .int .i64 (c1 t + 1)) HI2.out.1; rwa [List.setIfInBounds_toArray, show (ckL c1).set t (.int .i64 (c1 t + 1)) = ckL (tickC c1 t) from ckL_set c1 t _] at this), HI2.out.2.newBk (fr_set W3 b t (.int .i64 (c1 t + 1))) hwb⟩
  go_upto_region 2 with fail
  refine wp_letter (fun w' => w'.heap[b]? = some (.cells (ckL (tickC c1 t)).toArray 61 (0, 0)) ∧ Fr no w w') HS.out ?_
  intro W4 H4
  obtain ⟨d0, d1, d2, d3, d4, d5, d6, d7, d8, d9, d10, d11, d12⟩ := cells13 H4.1
  have KP := keep_any W4 p F n k (HP.out.keep H4.2) hk (th t) (th_ok ht) (tickC c1 t)
  have HF4 : Hid _ := H4.2
  unfold pkV th ckV at KP
  rw [ck_lit] at KP
  dsimp only at KP
  clear H4 HS fz cc
  go_wp2_with fail
  refine KP.mono ?_
  rintro _ w5 ⟨rfl, R5, F5⟩
  have HX : Hid (_ ∧ _) := ⟨R5, (HF4.out.up (S := TW c w)).tw F5⟩
  clear R5 F5 KP
  go_wp2_with fail
  exact bodyPost_end (v := .tuple #[]) (by kernel_rfl) rfl ⟨rfl, HX.out.1, HX.out.2⟩
end Go.Proofs.Ytnineggppoipiaa
