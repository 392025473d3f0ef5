/- Enter of another's lock; Enter. -/
import Derived.Test.YtkkpimpmhnnbjaaEn
import Derived.Test.YtkkpimpmhnnbjaaAp
namespace Go.Proofs.Ytkkpimpmhnnbjaa
open Go.ChangeShapes Go.WideShapes Go.ChangeAt Go.RowKit

set_option maxRecDepth 100000 in
set_option maxHeartbeats 1000000 in
theorem enter_other {c : Nat} {w : World} {p n : Nat} {S : Int → Option Lk} {N : Int → Int} (h : TB c w p n S N) (hn : n ≤ 800000) (a t : Int) (ha : In a) (ht : In t) (hb : ¬ (a < 1 ∨ t < 1 ∨ 0 < N t)) (hN : In (N t + 1)) (hlen : ((S a).getD lk0).entry.length ≤ 900000) (ho : ((S a).getD lk0).owner ≠ t) (h00 : ((S a).getD lk0).owner ≠ 0) :
    Calls Try.prog 10 #[.pointer (some ⟨p, 0, none⟩), .int .i64 a, .int .i64 t] w fun e w' => e = .returned (.tuple #[.bool false, .int .i64 0]) ∧ TB c w' p (n + 2) (upd S a (some { (S a).getD lk0 with fat := true, entry := ((S a).getD lk0).entry ++ [(t, 1)] })) (upd N t (N t + 1)) ∧ Fr (Tm c w) w w' := by
  obtain ⟨o, hc, hl⟩ := h.look2 ht
  have PL := place_any h (by omega) a ha
  have h1 : ¬ a < 1 := fun e => hb (.inl e)
  have h2 : ¬ t < 1 := fun e => hb (.inr (.inl e))
  have h3 : ¬ 0 < N t := fun e => hb (.inr (.inr e))
  clear h hb
  generalize hX : (S a).getD lk0 = X at *
  generalize hNt : N t = z at *
  have HNt : Hid (N t = z) := hNt
  clear hNt
  have hwr : IntKind.i64.wrap (z + 1) = z + 1 := by
    rw [IntKind.wrap_i64]
    unfold In at hN
    omega
  go_enter Try.func10, Try.ntmps10
  go_wp2_with fail
  refine wp_label_fwd 0 (fun _ _ => False) rfl ?_ (fun _ _ f => f.elim)
  intro K hg h0 hr
  go_wp2_with fail
  refine PL.mono ?_
  rintro _ w1 ⟨m1, m2, F, ⟨q, ve, vv⟩, rfl, t1, hy, f1⟩
  obtain ⟨x1, hx1, _, hq1, hq2, _⟩ := t1.lay hy
  rw [upd_same] at hx1
  obtain rfl := Option.some.inj hx1
  simp only [] at hq1 hq2
  obtain ⟨d0, d1, d2, d3, -⟩ := cells5 hq1
  have z2 := thaw hq1 2
  have g0 : (X.owner == 0) = false := by simpa using h00
  have g1 : (X.owner == t) = false := by simpa using ho
  obtain ⟨t2, f2⟩ := t1.turn hy (upd_same _ _ _) { X with fat := true } (fr_set w1 q 2 (.bool true)) (set2 hq1) rfl rfl
  rw [upd_upd] at t2
  have T2 : Hid (TP c (w1.setCell ⟨q, 2, none⟩ (.bool true)) p (n + 1) m1 m2 F (upd S a (some { X with fat := true })) N ∧ Fr (Tm c w) w (w1.setCell ⟨q, 2, none⟩ (.bool true))) := ⟨t2, f1.tm f2⟩
  clear t1 f1 hq1 hq2 PL hl hc hX t2 f2
  go_upto_region 7 with (fail)
  revert T2
  generalize w1.setCell ⟨q, 2, none⟩ (.bool true) = W
  intro T2
  clear d0 d1 d2 d3 z2
  obtain ⟨x3, hx3, _, hq3, o3, _⟩ := T2.out.1.lay hy
  rw [upd_same] at hx3
  obtain rfl := Option.some.inj hx3
  simp only [] at hq3 o3
  obtain ⟨oe, ce, hev⟩ := o3.form
  have d3 := (cells5 hq3).2.2.2.1
  have fa : Fr no W (W.alloc (.cells #[.int .i64 t, .int .i64 1] 68)) := (Fr.refl no _).alloc _ _
  have HSR : Hid (Src Try.prog elW.n elW.t (.slice (some ⟨W.heap.size, 0, none⟩) 1 1) [(t, (1 : Int))].length (cg elW [(t, 1)]) (W.alloc (.cells #[.int .i64 t, .int .i64 1] 68))) := srcG_one elW_ok W (t, 1)
  have HT3 : Hid (TP c (W.alloc (.cells #[.int .i64 t, .int .i64 1] 68)) p (n + 1) m1 m2 F (upd S a (some { X with fat := true })) N ∧ Fr (Tm c w) w (W.alloc (.cells #[.int .i64 t, .int .i64 1] 68))) := ⟨T2.out.1.keep fa, T2.out.2.tm fa.ofNo⟩
  have HO3 : Hid (OwnG elW (W.alloc (.cells #[.int .i64 t, .int .i64 1] 68)) ve X.entry) := o3.keep fa
  have hY : Hid (F a = some ⟨q, ve, vv⟩) := hy
  clear hq3 o3 fa T2 hy
  subst hev
  generalize hle : X.entry.length = le at *
  have HLE : Hid (X.entry.length = le) := hle
  clear hle
  have LEM : Hid (∀ v' w3, OwnG elW w3 v' (X.entry ++ [(t, 1)]) → Sp (.slice oe le ce) (W.alloc (.cells #[.int .i64 t, .int .i64 1] 68)) v' w3 → ∃ ov lf cv, v' = .slice ov lf cv ∧ w3.cell? ⟨q, 3, none⟩ = some (.slice oe le ce) ∧ w3.frozen? ⟨q, 3, none⟩ = false ∧
      Hid (TP c (w3.setCell ⟨q, 3, none⟩ (.slice ov lf cv)) p (n + 1) m1 m2 (upd F a (some ⟨q, .slice ov lf cv, vv⟩)) (upd S a (some { X with fat := true, entry := X.entry ++ [(t, 1)] })) N ∧ Fr (Tm c w) w (w3.setCell ⟨q, 3, none⟩ (.slice ov lf cv)))) := by
    intro v' w3 o3 s3
    obtain ⟨c3, z3, t4, f4⟩ := HT3.out.1.app3 hY.out (upd_same _ _ _) o3 s3
    simp only [] at c3 z3 t4 f4
    rw [upd_upd] at t4
    obtain ⟨ov, cv, rfl⟩ := o3.form
    exact ⟨ov, _, cv, rfl, c3, z3, t4, HT3.out.2.tm f4⟩
  clear HT3 hY
  go_upto_region 8 with (first | (at_builtin; refine wpList_apdG elW_ok _ rfl rfl _ _ rfl (.slice oe le ce) X.entry rfl HO3.out _ rfl [(t, 1)] HSR.out (by rw [HLE.out]; simp; omega) ?_; intro v' w3 o3 s3; obtain ⟨ov, lf, cv, rfl, c3, z3, T4⟩ := LEM.out v' w3 o3 s3; clear o3 s3) | go_in)
  revert T4
  generalize w3.setCell ⟨q, 3, none⟩ _ = V
  intro T4
  clear c3 z3
  obtain ⟨t4, f4⟩ := T4.out
  have c1 := (cells2 t4.tab).2
  have hl := t4.sm.look ht
  obtain ⟨w5, hrun, s5, f5⟩ := t4.sm.store (v := N t + 1) (by omega) ht (by rw [HNt.out]; exact hN)
  obtain ⟨t5, f5'⟩ := t4.stand f5 s5 (Nat.le_succ _)
  have HE : Hid (TB c w5 p (n + 2) (upd S a (some { X with fat := true, entry := X.entry ++ [(t, 1)] })) (upd N t (z + 1)) ∧ Fr (Tm c w) w w5) := by
    rw [HNt.out] at t5
    exact ⟨.inr ⟨_, _, _, t5⟩, f4.tm f5'⟩
  rw [HNt.out] at hl hrun
  clear t4 f4 t5 f5 f5' s5 T4 HO3 HSR LEM
  go_wp2_with fail
  go_ret2
  exact ⟨rfl, HE.out⟩

theorem enter_any {c : Nat} {w : World} {p n : Nat} {S : Int → Option Lk} {N : Int → Int} (h : TB c w p n S N) (hB : Bd n S N) (hn : n ≤ 800000) (a t : Int) (ha : In a) (ht : In t) :
    Calls Try.prog 10 #[.pointer (some ⟨p, 0, none⟩), .int .i64 a, .int .i64 t] w fun e w' => e = .returned (.tuple #[.bool (enterP a t S N).r, .int .i64 (enterP a t S N).err]) ∧ TB c w' p (n + 2) (enterP a t S N).S (enterP a t S N).N ∧ Fr (Tm c w) w w' := by
  have hX := hB.get a
  have hT := hB.std t
  unfold enterP
  by_cases h1 : a < 1 ∨ t < 1 ∨ 0 < N t
  · rw [if_pos h1]
    refine (enter_bad h a t ht h1).mono ?_
    rintro e w' ⟨rfl, rfl⟩
    exact ⟨rfl, h.mono (by omega), Fr.refl _ _⟩
  · rw [if_neg h1]
    have hc := hX.cnt
    have hl := hX.len
    have hic : In (((S a).getD lk0).count + 1) := by unfold In; omega
    by_cases h2 : ((S a).getD lk0).owner = t
    · rw [if_pos h2]
      refine (enter_own h hn a t ha ht h1 hic (.inl h2)).mono ?_
      rintro e w' ⟨rfl, t1, f1⟩
      have e : ({ (S a).getD lk0 with owner := t } : Lk) = (S a).getD lk0 := by rw [← h2]
      rw [e] at t1
      exact ⟨rfl, t1.mono (by omega), f1⟩
    · rw [if_neg h2]
      by_cases h3 : ((S a).getD lk0).owner = 0
      · rw [if_pos h3]
        refine (enter_own h hn a t ha ht h1 hic (.inr h3)).mono ?_
        rintro e w' ⟨rfl, t1, f1⟩
        exact ⟨rfl, t1.mono (by omega), f1⟩
      · rw [if_neg h3]
        exact enter_other h hn a t ha ht h1 (by unfold In; omega) (by omega) h2 h3

theorem enter_bd {n : Nat} {S : Int → Option Lk} {N : Int → Int} (hB : Bd n S N) (a t : Int) (ht : In t) : Bd (n + 2) (enterP a t S N).S (enterP a t S N).N := by
  have hX := (hB.get a).mono (n' := n + 2) (by omega)
  have hc := (hB.get a).cnt
  have hl := (hB.get a).len
  have hT := hB.std t
  have hB2 := hB.mono (n' := n + 2) (by omega)
  unfold enterP
  split
  · exact hB2
  · split
    · refine hB2.put a (fun x hx => ?_)
      obtain rfl := Option.some.inj hx
      exact ⟨hX.own, ⟨by show 0 ≤ ((S a).getD lk0).count + 1; omega, by show ((S a).getD lk0).count + 1 ≤ _; omega⟩, hX.len, hX.ent, hX.wai⟩
    · split
      · refine hB2.put a (fun x hx => ?_)
        obtain rfl := Option.some.inj hx
        exact ⟨ht, ⟨by show 0 ≤ ((S a).getD lk0).count + 1; omega, by show ((S a).getD lk0).count + 1 ≤ _; omega⟩, hX.len, hX.ent, hX.wai⟩
      · refine (hB2.put a (fun x hx => ?_)).num t (by omega)
        obtain rfl := Option.some.inj hx
        refine ⟨hX.own, hX.cnt, by simp; omega, fun e he => ?_, hX.wai⟩
        simp only [List.mem_append, List.mem_singleton] at he
        rcases he with he | rfl
        · exact hX.ent e he
        · exact ⟨ht, by show (0 : Int) ≤ 1; decide, by show (1 : Int) ≤ _; omega⟩
end Go.Proofs.Ytkkpimpmhnnbjaa
