/- The program's clocks: which is one, join, before, list. -/
import Derived.Test.YtnineggppoipiaaPm
namespace Go.Proofs.Ytnineggppoipiaa
open Go.ChangeShapes Go.WideShapes Go.ChangeAt Go.RowKit

theorem isT_any (w : World) (t : Int) : Calls Try.prog 32 #[.int .i64 t] w fun e w' => e = .returned (.bool (isB t)) ∧ w' = w := by
  unfold isB
  by_cases h1 : 1 ≤ t
  · by_cases h2 : t ≤ 12
    · rw [decide_eq_true h1, decide_eq_true h2]
      go_enter Try.func32, Try.ntmps32
      go_wp2_with fail
      go_ret
      exact ⟨by simp, rfl⟩
    · rw [decide_eq_true h1, decide_eq_false h2]
      go_enter Try.func32, Try.ntmps32
      go_wp2_with fail
      go_ret
      exact ⟨by simp, rfl⟩
  · rw [decide_eq_false h1, Bool.false_and]
    go_enter Try.func32, Try.ntmps32
    go_wp2_with fail
    go_ret
    exact ⟨rfl, rfl⟩

theorem info61 : (Try.prog.info? 61).map (·.size) = some 13 := by kernel_rfl
theorem ld_nk {w : World} {b o : Nat} {c : Nat → Int} (h : w.rangeAt b o (ckL c)) : (Instr.loadAt 61 (.pointer (some ⟨b, o, none⟩))).run Try.prog w = .ok (ckV c) w :=
  run_loadAt_mid (P := Try.prog) w b o 61 (ckL c) _ h Try.underlying61 rfl (by rw [ckL_len]; exact info61)
theorem st_nk {w : World} {b o : Nat} (c : Nat → Int) (h : w.there b o 13) : (Instr.storeAt 61 (.pointer (some ⟨b, o, none⟩)) (ckV c)).run Try.prog w = .ok () (w.setCells b o (ckL c)) :=
  run_storeAt_mid (P := Try.prog) w b o 61 (ckL c).toArray (by rw [ck_size]; exact h) (by rw [ck_size]; exact info61) (ck_one c)
theorem ret_nk {f : Func} {R : Ending → World → Prop} {W : World} {b n : Nat} {c : Nat → Int} {tmps : Array Value} (h : W.rangeAt b 0 (ckL c)) (hR : R (.returned (ckV c)) W) (hf : f.results = #[.cell n 61] := by kernel_rfl) (h2 : tmps.getD n undef = .pointer (some ⟨b, 0, none⟩) := by kernel_rfl) :
    bodyPost Try.prog f R .ret { tmps := tmps, defers := [] } W := by
  have hl := run_loadVar_mid (P := Try.prog) W b 0 61 (ckL c) _ h Try.underlying61 rfl (by rw [ckL_len]; exact info61)
  have h2' : tmps[n]?.getD undef = .pointer (some ⟨b, 0, none⟩) := by simpa using h2
  refine bodyPost_ret (v := ckV c) ?_ rfl hR
  simp [results, hf, asAddr, h2', hl, ckV]
theorem boxes3n (w : World) (A B C : Array Value) (t : TypeId) : ∃ W b c d, ((w.alloc (.cells A t)).alloc (.cells B t)).alloc (.cells C t) = W ∧ w.heap.size + 1 + 1 = d ∧ w.heap.size + 1 = c ∧ w.heap.size = b ∧ W.heap[b]? = some (.cells A t (0, 0)) ∧ W.heap[c]? = some (.cells B t (0, 0)) ∧ W.heap[d]? = some (.cells C t (0, 0)) ∧ Fr no w W := by
  have h1 : (w.alloc (.cells A t)).heap.size = w.heap.size + 1 := by simp
  have h2 : ((w.alloc (.cells A t)).alloc (.cells B t)).heap.size = w.heap.size + 1 + 1 := by simp
  have e2 := heap_alloc_new w (.cells A t)
  have e3 := heap_alloc_new (w.alloc (.cells A t)) (.cells B t)
  have e4 := heap_alloc_new ((w.alloc (.cells A t)).alloc (.cells B t)) (.cells C t)
  rw [h1] at e3
  rw [h2] at e4
  exact ⟨_, _, _, _, rfl, rfl, rfl, rfl, ((Fr.refl no _).alloc _ _).heap (((Fr.refl no _).alloc _ _).heap e2 (fun f => f)) (fun f => f), ((Fr.refl no _).alloc _ _).heap e3 (fun f => f), e4, (((Fr.refl no w).alloc _ _).alloc _ _).alloc _ _⟩
theorem boxes2n (w : World) (A B : Array Value) (t u : TypeId) : ∃ W b c, (w.alloc (.cells A t)).alloc (.cells B u) = W ∧ w.heap.size + 1 = c ∧ w.heap.size = b ∧ W.heap[b]? = some (.cells A t (0, 0)) ∧ W.heap[c]? = some (.cells B u (0, 0)) ∧ Fr no w W := by
  have h1 : (w.alloc (.cells A t)).heap.size = w.heap.size + 1 := by simp
  have e2 := heap_alloc_new w (.cells A t)
  have e3 := heap_alloc_new (w.alloc (.cells A t)) (.cells B u)
  rw [h1] at e3
  exact ⟨_, _, _, rfl, rfl, rfl, ((Fr.refl no _).alloc _ _).heap e2 (fun f => f), e3, ((Fr.refl no w).alloc _ _).alloc _ _⟩

set_option maxRecDepth 100000 in
set_option maxHeartbeats 1000000 in
theorem pjoin_any (w : World) (a b : Nat → Int) (ha : Bd a) (hb : Bd b) : Calls Try.prog 46 #[ckV a, ckV b] w fun e w' => e = .returned (ckV (joinC a b)) ∧ Fr no w w' := by
  obtain ⟨W, b2, b3, b4, eW, e4, e3, e2, H2, H3, H4, F0⟩ := boxes3n w (ckL a).toArray (ckL b).toArray z13 61
  unfold ckV
  have H0 : Hid (_ ∧ _ ∧ _ ∧ _) := ⟨eW, e4, e3, e2⟩
  unfold z13 at H0 H4
  clear eW e4 e3 e2
  go_enter Try.func46, Try.ntmps46
  go_upto_region 1 with fail
  rw [H0.out.1, H0.out.2.1, H0.out.2.2.1, H0.out.2.2.2]
  have hb23 : b2 < b3 := by have := H0.out; omega
  have hb34 : b3 < b4 := by have := H0.out; omega
  have hwb : w.heap.size ≤ b2 := by have := H0.out; omega
  clear H0
  have HI : Hid (_ ∧ _ ∧ _ ∧ _) := ⟨H2, H3, H4, F0⟩
  clear H2 H3 H4 F0
  go_wp2_with fail
  go_loopw [6] (fun iv wr => ∃ k : Nat, iv = .int .i64 (k : Int) ∧ k ≤ 13 ∧ Hid (wr.heap[b2]? = some (.cells (ckL (mixC a b k)).toArray 61 (0, 0)) ∧ wr.heap[b3]? = some (.cells (ckL b).toArray 61 (0, 0)) ∧ wr.heap[b4]? = some (.cells z13 61 (0, 0)) ∧ Fr no w wr)) (fun iv _ => 13 - (intOf iv).toNat)
  case atStart => exact ⟨0, rfl, by omega, HI⟩
  case round =>
    obtain ⟨k, rfl, hk, HJ⟩ := hrel
    clear HI
    have hk0 : (0 : Int) ≤ (k : Int) := by omega
    by_cases hlt : k < 13
    · have hlt' : (k : Int) < 13 := by omega
      have c1 := row_cell HJ.out.1 hlt
      have c2 := row_cell HJ.out.2.1 hlt
      have fz := row_froz HJ.out.1
      have hm : mixC a b k k = a k := if_neg (Nat.lt_irrefl k)
      rw [hm] at c1
      have ha1 := ha k
      have hb1 := hb k
      have hw1 : IntKind.i64.wrap (a k) = a k := wrap_small _ (by omega) (by omega)
      have hw2 : IntKind.i64.wrap (b k) = b k := wrap_small _ (by omega) (by omega)
      have HN : Hid (∀ v : Int, v = max (a k) (b k) → (wr.setCell ⟨b2, k, none⟩ (.int .i64 v)).drew.heap[b2]? = some (.cells (ckL (mixC a b (k + 1))).toArray 61 (0, 0)) ∧ (wr.setCell ⟨b2, k, none⟩ (.int .i64 v)).drew.heap[b3]? = some (.cells (ckL b).toArray 61 (0, 0)) ∧ (wr.setCell ⟨b2, k, none⟩ (.int .i64 v)).drew.heap[b4]? = some (.cells z13 61 (0, 0)) ∧ Fr no w (wr.setCell ⟨b2, k, none⟩ (.int .i64 v)).drew) := fun v hv => by
        obtain ⟨h1, h2, h3, h4⟩ := HJ.out
        have hs := heap_set (o := k) (u := .int .i64 v) h1
        rw [List.setIfInBounds_toArray, ckL_set, hv, mixC_step] at hs
        have G := fr_set wr b2 k (.int .i64 v)
        rw [← hv] at hs
        exact ⟨hs, G.heap h2 (by unfold Bk; omega), G.heap h3 (by unfold Bk; omega), (h4.newBk G hwb).drew⟩
      clear hm
      go_wp2_with fail
      go_region
      have HW := HN.out (if a k < b k then b k else a k) (by split <;> omega)
      have HWW : Hid _ := HW
      clear HW HN c1 c2 fz
      go_wp2_with fail
      go_roundw
      case rel => exact ⟨k + 1, by congr 1, by omega, HWW⟩
      case measure => simp [intOf]; omega
    · obtain rfl : k = 13 := by omega
      have H2 := HJ.out.1
      rw [mixC_all] at H2
      have ht : wr.there b4 0 13 := there_row HJ.out.2.2.1
      have hr := World.rangeAt_setCells_same wr b4 0 (ckL (joinC a b)) (by rw [ckL_len]; exact ht)
      have HF := HJ.out.2.2.2.newBk (fr_sets wr b4 0 (ckL (joinC a b))) (by omega)
      have HX : Hid (_ ∧ _) := ⟨hr, HF⟩
      have HL : Hid (_ ∧ _) := ⟨range_row H2, ht⟩
      clear hr HF H2 HJ ht
      go_upto_region 6 with fail
      apply wp_region_lit
      refine wpList_load_mid rfl 61 (.tmp 2) rfl b2 0 rfl (ckL (joinC a b)) _ HL.out.1 Try.underlying61 rfl (by rw [ckL_len]; exact info61) ?_
      refine wpList_store_mid rfl 61 (.tmp 4) (.tmp 19) rfl b4 0 (ckL (joinC a b)).toArray rfl rfl (by rw [ck_size]; exact HL.out.2) (by rw [ck_size]; exact info61) (ck_one _) ?_
      refine wpList_nil ?_
      show Exit.then _ _ Exit.normal _ _
      go_wp2_with fail
      refine ret_nk (n := 4) HX.out.1 ?_
      exact ⟨rfl, HX.out.2⟩

/-- At the label of 'before'. -/
def BfAt (W : World) (b2 b3 : Nat) (a b : Nat → Int) (x : Act) (wr : World) : Prop :=
  ∃ (k n : Nat) (z : Int) (u0 u1 u4 u6 u7 u8 u9 u10 u11 u12 u13 u14 u15 u16 : Value), x = { tmps := #[u0, u1, .pointer (some ⟨b2, 0, none⟩), .pointer (some ⟨b3, 0, none⟩), u4, .int .i64 z, u6, u7, u8, u9, u10, u11, u12, u13, u14, u15, u16], defers := [] } ∧ z = (k : Int) ∧ k ≤ 13 ∧ Hid (∀ j, j < k → a j ≤ b j) ∧ wr = W.drewN n

set_option maxRecDepth 100000 in
set_option maxHeartbeats 1000000 in
theorem pbefore_any (w : World) (a b : Nat → Int) : Calls Try.prog 47 #[ckV a, ckV b] w fun e w' => e = .returned (.bool (beforeB a b)) ∧ Fr no w w' := by
  obtain ⟨W, b2, b3, eW, e3, e2, H2, H3, F0⟩ := boxes2n w (ckL a).toArray (ckL b).toArray 61 61
  generalize hres : beforeB a b = res
  have HR : Hid (beforeB a b = res) := hres
  clear hres
  unfold ckV
  have H0 : Hid (_ ∧ _ ∧ _) := ⟨eW, e3, e2⟩
  clear eW e3 e2
  go_enter Try.func47, Try.ntmps47
  go_wp2_with fail
  rw [H0.out.1, H0.out.2.1, H0.out.2.2]
  clear H0
  have HI : Hid (_ ∧ _ ∧ _) := ⟨H2, H3, F0⟩
  clear H2 H3 F0
  refine wp_label_one 0 (BfAt W b2 b3 a b) (fun x _ => 13 - (intOf (x.tmps.getD 5 undef)).toNat) rfl ?_ ?_
  · intro K h0 hr hn
    go_wp2_with fail
    go_step3
    rename_i hk
    exact hk _ _ (h0 _ _ ⟨0, 0, _, _, _, _, _, _, _, _, _, _, _, _, _, _, _, rfl, rfl, by omega, fun j h => by omega, rfl⟩)
  · rintro x wr ⟨k, n, z, u0, u1, u4, u6, u7, u8, u9, u10, u11, u12, u13, u14, u15, u16, rfl, rfl, hk, HK, hwr⟩ K hj hr hn
    have HWR : Hid (wr = W.drewN n) := hwr
    have hk0 : (0 : Int) ≤ (k : Int) := by omega
    by_cases hlt : k < 13
    · have hlt' : (k : Int) < 13 := by omega
      have hne : ((k : Int) == 13) = false := by simp; omega
      have c1 : wr.cell? ⟨b2, k, none⟩ = some (.int .i64 (a k)) := by rw [hwr]; exact row_cell HI.out.1 hlt
      have c2 : wr.cell? ⟨b3, k, none⟩ = some (.int .i64 (b k)) := by rw [hwr]; exact row_cell HI.out.2.1 hlt
      clear hwr
      by_cases hab : b k < a k
      · have hR : res = false := HR.out.symm.trans (before_no hlt hab)
        subst hR
        go_wp2_with fail
        go_quiet (fail)
        go_wp2_with fail
        refine hr _ _ ?_
        go_ret
        exact ⟨rfl, by rw [HWR.out]; exact (HI.out.2.2.drewN _).drewN _⟩
      · have HK2 : Hid (∀ j, j < k + 1 → a j ≤ b j) := fun j hj => by
          rcases Nat.lt_succ_iff_lt_or_eq.1 hj with h | rfl
          · exact HK.out j h
          · omega
        go_wp2_with fail
        go_quiet (fail)
        generalize hwq : World.drewN wr nq = wq
        have HQ : Hid (wq = W.drewN (n + nq)) := by rw [Hid, ← hwq, HWR.out]; simp
        clear hwq
        go_wp2_with fail
        go_step3
        refine hj _ _ ⟨k + 1, n + nq, _, _, _, _, _, _, _, _, _, _, _, _, _, _, _, rfl, by omega, by omega, HK2, HQ.out⟩ ?_
        simp [intOf]
        omega
    · obtain rfl : k = 13 := by omega
      have hR : res = true := HR.out.symm.trans (before_yes fun j hj => HK.out j (by omega))
      subst hR
      clear hwr
      go_wp2_with fail
      refine hr _ _ ?_
      go_ret
      exact ⟨rfl, by rw [HWR.out]; exact HI.out.2.2.drewN _⟩
end Go.Proofs.Ytnineggppoipiaa
