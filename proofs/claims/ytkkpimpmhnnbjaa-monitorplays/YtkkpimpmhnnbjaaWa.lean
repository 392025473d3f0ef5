/- Wait. -/
import Derived.Test.YtkkpimpmhnnbjaaEx
namespace Go.Proofs.Ytkkpimpmhnnbjaa
open Go.ChangeShapes Go.WideShapes Go.ChangeAt Go.RowKit

def waitL (t : Int) (x : Lk) : Lk := { x with fat := true, wait := x.wait ++ [(t, x.count)] }

def waitP (a t : Int) (S : Int → Option Lk) (N : Int → Int) : Ans Int :=
  match ownP S a t with
  | none => ⟨0, 130, S, N⟩
  | some x => ⟨handR (waitL t x), 0, handS S a (waitL t x), handN (upd N t (N t + 1)) (waitL t x)⟩

set_option maxRecDepth 100000 in
set_option maxHeartbeats 1000000 in
theorem wait_any {c : Nat} {w : World} {p n : Nat} {S : Int → Option Lk} {N : Int → Int} (h : TB c w p n S N) (hB : Bd n S N) (hn : n ≤ 700000) (a t : Int) (ha : In a) (ht : In t) :
    Calls Try.prog 14 #[.pointer (some ⟨p, 0, none⟩), .int .i64 a, .int .i64 t] w fun e w' => e = .returned (.tuple #[.int .i64 (waitP a t S N).r, .int .i64 (waitP a t S N).err]) ∧ TB c w' p (n + 2) (waitP a t S N).S (waitP a t S N).N ∧ Fr (Tm c w) w w' := by
  have e1 := eq_nil
  have e2 := eq_ptr
  unfold waitP
  cases ho : ownP S a t with
  | none =>
    have OW := owned_no h a t ha ho
    have HT : Hid (TB c w p (n + 2) S N) := h.mono (by omega)
    clear h ho hB
    go_enter Try.func14, Try.ntmps14
    go_wp2_with fail
    refine OW.mono ?_
    rintro _ w1 ⟨rfl, rfl⟩
    go_wp2_with fail
    go_ret2
    exact ⟨rfl, HT.out, Fr.refl _ _⟩
  | some x =>
    obtain ⟨m1, m2, F, ⟨q, ve, vv⟩, t1, hy, OW⟩ := owned_yes h a t ha x ho
    obtain ⟨hx, -, -⟩ := ownP_some ho
    obtain ⟨x2, hx2, _, hq1, _⟩ := t1.lay hy
    rw [hx] at hx2
    obtain rfl := Option.some.inj hx2
    simp only [] at hq1 ⊢
    obtain ⟨-, d1, d2, -, d4⟩ := cells5 hq1
    have z2 := thaw hq1 2
    have hok := hB.lk a x hx
    have hcn := hok.cnt
    have hln := hok.len
    have hNt := hB.std t
    have hwr : IntKind.i64.wrap (N t + 1) = N t + 1 := by
      rw [IntKind.wrap_i64]
      omega
    have hB2 : Hid (Bd (n + 2) S (upd N t (N t + 1))) := (hB.mono (n' := n + 2) (by omega)).num t (by omega)
    have hok2 : Hid (LkOk (n + 2) (waitL t x)) := by
      have h2 := hok.mono (n' := n + 2) (by omega)
      refine ⟨h2.own, h2.cnt, by simp [waitL]; omega, h2.ent, fun e he => ?_⟩
      simp only [waitL, List.mem_append, List.mem_singleton] at he
      rcases he with he | rfl
      · exact h2.wai e he
      · exact ⟨ht, h2.cnt.1, h2.cnt.2⟩
    obtain ⟨t2, f2⟩ := t1.turn hy hx { x with fat := true } (fr_set w q 2 (.bool true)) (set2 hq1) rfl rfl
    have T2 : Hid (TP c (w.setCell ⟨q, 2, none⟩ (.bool true)) p n m1 m2 F (upd S a (some { x with fat := true })) N ∧ Fr (Tm c w) w (w.setCell ⟨q, 2, none⟩ (.bool true))) := ⟨t2, f2⟩
    clear h hB t1 hq1 hx ho hok hx2 t2 f2
    go_enter Try.func14, Try.ntmps14
    go_wp2_with fail
    refine OW.mono ?_
    rintro _ w1 ⟨rfl, rfl⟩
    go_upto_region 5 with (fail)
    revert T2
    generalize w1.setCell ⟨q, 2, none⟩ (.bool true) = W
    intro T2
    clear d1 d2 d4 z2
    obtain ⟨x3, hx3, _, hq3, _, o3, _⟩ := T2.out.1.lay hy
    rw [upd_same] at hx3
    obtain rfl := Option.some.inj hx3
    simp only [] at hq3 o3
    obtain ⟨oe, ce, hev⟩ := o3.form
    obtain ⟨-, d1, -, -, d4⟩ := cells5 hq3
    simp only [] at d1
    have fa : Fr no W ((W.alloc (.cells #[.int .i64 t, .int .i64 x.count] 68)).drew) := ((Fr.refl no _).alloc _ _).drew
    have HSR : Hid (Src Try.prog elW.n elW.t (.slice (some ⟨W.heap.size, 0, none⟩) 1 1) [(t, x.count)].length (cg elW [(t, x.count)]) ((W.alloc (.cells #[.int .i64 t, .int .i64 x.count] 68)).drew)) := ((own_lit elW_ok W [(t, x.count)] _ rfl (by unfold maxLen; simp)).keep ((Fr.refl no _).drew)).sl.src elW_ok
    have HT3 : Hid (TP c ((W.alloc (.cells #[.int .i64 t, .int .i64 x.count] 68)).drew) p n m1 m2 F (upd S a (some { x with fat := true })) N ∧ Fr (Tm c w1) w1 ((W.alloc (.cells #[.int .i64 t, .int .i64 x.count] 68)).drew)) := ⟨T2.out.1.keep fa, T2.out.2.tm fa.ofNo⟩
    have HO3 : Hid (OwnG elW ((W.alloc (.cells #[.int .i64 t, .int .i64 x.count] 68)).drew) vv x.wait) := o3.keep fa
    have hY : Hid (F a = some ⟨q, ve, vv⟩) := hy
    clear hq3 o3 fa T2 hy hx3
    subst hev
    generalize hle : x.wait.length = le at *
    have HLE : Hid (x.wait.length = le) := hle
    clear hle
    have LEM : Hid (∀ v' w3, OwnG elW w3 v' (x.wait ++ [(t, x.count)]) → Sp (.slice oe le ce) ((W.alloc (.cells #[.int .i64 t, .int .i64 x.count] 68)).drew) v' w3 → ∃ ov lf cv, v' = .slice ov lf cv ∧ w3.cell? ⟨q, 4, none⟩ = some (.slice oe le ce) ∧ w3.frozen? ⟨q, 4, none⟩ = false ∧
        Hid (TP c (w3.setCell ⟨q, 4, none⟩ (.slice ov lf cv)) p n m1 m2 (upd F a (some ⟨q, ve, .slice ov lf cv⟩)) (upd S a (some (waitL t x))) N ∧ Fr (Tm c w1) w1 (w3.setCell ⟨q, 4, none⟩ (.slice ov lf cv)))) := by
      intro v' w3 o3 s3
      obtain ⟨c3, z3, t4, f4⟩ := HT3.out.1.app4 hY.out (upd_same _ _ _) o3 s3
      simp only [] at c3 z3 t4 f4
      rw [upd_upd] at t4
      obtain ⟨ov, cv, rfl⟩ := o3.form
      exact ⟨ov, _, cv, rfl, c3, z3, t4, HT3.out.2.tm f4⟩
    have d4a : (W.alloc (.cells #[.int .i64 t, .int .i64 x.count] 68)).cell? ⟨q, 4, none⟩ = some (.slice oe le ce) := by
      obtain ⟨x4, hx4, _, hq4, _⟩ := HT3.out.1.lay hY.out
      exact (cells5 hq4).2.2.2.2
    have d1a : (W.alloc (.cells #[.int .i64 t, .int .i64 x.count] 68)).cell? ⟨q, 1, none⟩ = some (.int .i64 x.count) := by
      obtain ⟨x4, hx4, _, hq4, _⟩ := HT3.out.1.lay hY.out
      rw [upd_same] at hx4
      obtain rfl := Option.some.inj hx4
      exact (cells5 hq4).2.1
    clear HT3 hY
    go_region_law (refine step_apdG elW_ok (W.alloc (.cells #[.int .i64 t, .int .i64 x.count] 68)).drew rfl rfl (.tmp 22) (.tmp 29) rfl (.slice oe le ce) x.wait (by simp [Act.eval]) HO3.out (.slice (some ⟨W.heap.size, 0, none⟩) 1 1) (by simp [Act.eval]) [(t, x.count)] HSR.out (by rw [HLE.out]; simp; omega) ?_; intro v' w3 o3 s3; obtain ⟨ov, lf, cv, rfl, c3, z3, T4⟩ := LEM.out v' w3 o3 s3; clear o3 s3)
    all_goals
      revert T4
      generalize w3.setCell ⟨q, 4, none⟩ (.slice ov lf cv) = V
      intro T4
      clear c3 z3 d1 d4 d1a d4a
      obtain ⟨t4, f4⟩ := T4.out
      have c1 := (cells2 t4.tab).2
      have hl := t4.sm.look ht
      obtain ⟨w5, hrun, s5, f5⟩ := t4.sm.store (v := N t + 1) (by omega) ht (by unfold In; omega)
      obtain ⟨t5, f5'⟩ := t4.stand f5 s5 (Nat.le_succ _)
      have HO := hand_any t5 (by omega) a ha ⟨q, ve, .slice ov lf cv⟩ (upd_same _ _ _) (waitL t x) (upd_same _ _ _) (hand_pre hB2.out (by omega) hok2.out)
      rw [handS_upd] at HO
      have HF : Hid (Fr (Tm c w1) w1 w5) := f4.tm f5'
      clear t4 f4 t5 f5 f5' s5 T4
      go_wp2_with fail
      refine HO.mono ?_
      rintro _ w6 ⟨rfl, t6, f6⟩
      have HT : Hid (TB c w6 p (n + 2) (handS S a (waitL t x)) (handN (upd N t (N t + 1)) (waitL t x)) ∧ Fr (Tm c w1) w1 w6) := ⟨t6, HF.out.tm f6⟩
      clear t6 f6 HO OW
      go_wp2_with fail
      go_ret2
      exact ⟨rfl, HT.out⟩

theorem wait_bd {n : Nat} {S : Int → Option Lk} {N : Int → Int} (hB : Bd n S N) (a t : Int) (ht : In t) : Bd (n + 2) (waitP a t S N).S (waitP a t S N).N := by
  unfold waitP
  cases ho : ownP S a t with
  | none => exact hB.mono (by omega)
  | some x =>
    have hx := hB.lk a x (ownP_some ho).1
    have hT := hB.std t
    have h2 := hx.mono (n' := n + 1) (by omega)
    have hl := hx.len
    refine hand_bd (n := n + 1) ((hB.mono (by omega)).num t (by omega)) a (LkOk.mono (n := n + 1) ?_ (by omega))
    refine ⟨h2.own, h2.cnt, by simp [waitL]; omega, h2.ent, fun e he => ?_⟩
    simp only [waitL, List.mem_append, List.mem_singleton] at he
    rcases he with he | rfl
    · exact h2.wai e he
    · exact ⟨ht, h2.cnt.1, h2.cnt.2⟩
end Go.Proofs.Ytkkpimpmhnnbjaa
