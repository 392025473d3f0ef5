/- Where a method of Main begins. -/
import Derived.Test.YtalgjpmaafooeaaGreatDoorKaq
import Derived.Test.YtalgjpmaafooeaaGreatDoorKar
namespace Go.Proofs.YtalgjpmaafooeaaGreatDoor
open Go.ChangeShapes Go.WideShapes Go.ChangeAt Go.RowKit
open H (ix NewV)
theorem src_empty (w : World) (a : Option Addr) (c : Nat) (h : a = none → c = 0) : Src Tryz.prog elTy.n elTy.t (.slice a 0 c) ([] : List Ty).length (cg elTy []) w := by
 cases a with
 | none => obtain rfl := h rfl; exact Src.ofNil _ okTy.und _
 | some a => exact Src.ofSlice _ okTy.und _ _ _ _ rfl (fun j u hj => by simp [cg] at hj) (cg_one okTy _)
theorem results_82 (w : World) (r : Nat) (x0 x1 x2 x3 : Value) (h : w.heap[r]? = some (.cells #[x0, x1, x2, x3] 67 (0, 0))) (tmps : Array Value) (h2 : tmps.getD 4 undef = .pointer (some ⟨r, 0, none⟩)) :
 (results Tryz.f116 tmps).run Tryz.prog w = .ok (.agg #[x0, x1, x2, x3]) w := by
 have hl : (loadVar 67 ⟨r, 0, none⟩).run Tryz.prog w = .ok (.agg #[x0, x1, x2, x3]) w := run_loadVar_row (P := Tryz.prog) w r 67 67 #[x0, x1, x2, x3] (0, 0) _ h Tryz.underlying67 rfl (by kernel_rfl)
 have h2' : tmps[4]?.getD undef = .pointer (some ⟨r, 0, none⟩) := by simpa using h2
 simp [results, asAddr, h2', hl]
set_option maxRecDepth 100000 in
set_option maxHeartbeats 4000000 in
theorem entry_3 (w : World) (cn : ByteArray) (m : Ms) (hp : m.p.n = 0) (hp0 : m.p.a = none → m.p.c = 0) (hlo : m.lo = 3) :
 Calls Tryz.prog 116 #[.string cn, msV m] w fun e w' => ∃ s : Sa, e = .returned (saV s) ∧ s.r = true ∧ s.st = ⟨none, 0, 0⟩ ∧ s.lk = ⟨none, 0, 0⟩ ∧ OwnG elTy w' (.slice s.lo.a s.lo.n s.lo.c) [⟨4, cn⟩, top, top] ∧ NewV w (.slice s.lo.a s.lo.n s.lo.c) ∧ Fr no w w' := by
 obtain ⟨mn, ⟨pa, pn, pc⟩, ⟨rk, rc⟩, lo, st, ⟨ca, cn', cc⟩, ⟨ha, hn, hc⟩⟩ := m
 simp only at hp hp0 hlo
 subst hp hlo
 unfold msV
 simp only
 generalize hW1 : (w.alloc (.cells #[.string mn, .slice pa 0 pc, .int .i64 rk, .string rc, .int .i64 3, .int .i64 st, .slice ca cn' cc, .slice ha hn hc] 47)).alloc (.cells #[.bool false, .slice none 0 0, .slice none 0 0, .slice none 0 0] 67) = W1
 have G0 : Fr no w (w.alloc (.cells #[.string mn, .slice pa 0 pc, .int .i64 rk, .string rc, .int .i64 3, .int .i64 st, .slice ca cn' cc, .slice ha hn hc] 47)) := (Fr.refl no w).alloc _ _
 have G1 : Fr no (w.alloc (.cells #[.string mn, .slice pa 0 pc, .int .i64 rk, .string rc, .int .i64 3, .int .i64 st, .slice ca cn' cc, .slice ha hn hc] 47)) W1 := by rw [← hW1]; exact (Fr.refl no _).alloc _ _
 have E0 : W1.heap[w.heap.size]? = some (.cells #[.string mn, .slice pa 0 pc, .int .i64 rk, .string rc, .int .i64 3, .int .i64 st, .slice ca cn' cc, .slice ha hn hc] 47 (0, 0)) := G1.heap (heap_alloc_new w _) (fun f => f)
 have E1 : W1.heap[w.heap.size + 1]? = some (.cells #[.bool false, .slice none 0 0, .slice none 0 0, .slice none 0 0] 67 (0, 0)) := by rw [← hW1, ← size_alloc w (.cells #[.string mn, .slice pa 0 pc, .int .i64 rk, .string rc, .int .i64 3, .int .i64 st, .slice ca cn' cc, .slice ha hn hc] 47)]; exact heap_alloc_new _ _
 have s1 : W1.heap.size = w.heap.size + 2 := by rw [← hW1, size_alloc, size_alloc]
 have F1 : Fr no w W1 := G0.new G1 (fun _ _ f => f)
 have HO1 : Hid (OwnG elTy (W1.alloc (.cells #[.int .i64 4, .string cn] 44)) (.slice (some ⟨w.heap.size + 2, 0, none⟩) 1 1) [⟨4, cn⟩]) := s1 ▸ own_lit okTy W1 [⟨4, cn⟩] _ (by rfl) (show 1 ≤ maxLen by decide)
 have HP : Hid _ := hp0
 have HF2 : Hid (Fr no W1 (W1.alloc (.cells #[.int .i64 4, .string cn] 44))) := (Fr.refl no W1).alloc _ _
 have c1 := cell_at (o := 1) (HF2.out.heap E0 (fun f => f))
 simp at c1
 have HST : Hid (∀ v' w2, OwnG elTy w2 v' ([⟨4, cn⟩] ++ []) → Sp no (.slice (some ⟨w.heap.size + 2, 0, none⟩) 1 1) (W1.alloc (.cells #[.int .i64 4, .string cn] 44)) v' w2 → ∃ q k, v' = .slice q 1 k ∧ Hid (OwnG elTy w2 (.slice q 1 k) [⟨4, cn⟩] ∧ NewV W1 (.slice q 1 k) ∧ Fr no W1 w2 ∧ w2.heap[w.heap.size + 1]? = some (.cells #[.bool false, .slice none 0 0, .slice none 0 0, .slice none 0 0] 67 (0, 0))) ∧ w2.cell? ⟨w.heap.size, 4, none⟩ = some (.int .i64 3) ∧ ((w2.alloc (.cells #[.int .i64 6, .string ⟨#[]⟩] 44)).alloc (.cells #[.int .i64 6, .string ⟨#[]⟩] 44)).cell? ⟨w.heap.size, 4, none⟩ = some (.int .i64 3)) := fun v' w2 o2 s2 => by
  have NV1 : NewV W1 (.slice (some ⟨w.heap.size + 2, 0, none⟩) 1 1) := fun k hk => by
   simp only [Value.ownBlock, Option.some.injEq] at hk
   omega
  obtain ⟨m2, f21⟩ := NV1.step HF2.out s2
  have L2 := cell_at (o := 4) (f21.heap E0 (fun f => f))
  obtain ⟨q2, k2, rfl⟩ := o2.form
  have f5 : Fr no w2 ((w2.alloc (.cells #[.int .i64 6, .string ⟨#[]⟩] 44)).alloc (.cells #[.int .i64 6, .string ⟨#[]⟩] 44)) := ((Fr.refl no w2).alloc _ _).new ((Fr.refl no _).alloc _ _) (fun _ _ f => f)
  exact ⟨q2, k2, rfl, ⟨o2, m2, f21, f21.heap E1 (fun f => f)⟩, L2, f5.cell L2 (fun f => f)⟩
 have HF1 : Hid _ := F1
 have HE1 : Hid _ := E1
 clear G0 G1 E0 E1 F1 hp0
 go_enter Tryz.func116, Tryz.ntmps116
 go_wp2_with (first | (at_builtin; refine wpList_apdG okTy _ rfl rfl _ _ rfl (.slice (some ⟨w.heap.size + 2, 0, none⟩) 1 1) [⟨4, cn⟩] rfl HO1.out _ rfl [] (src_empty _ _ _ HP.out) (by intro h; cases h) (by simp) ?_; intro v' w2 o2 s2; obtain ⟨q2, k2, rfl, HO2, L2, L5⟩ := HST.out v' w2 o2 s2; clear o2 s2 HST))
 have F5 : Fr no w2 ((w2.alloc (.cells #[.int .i64 6, .string ⟨#[]⟩] 44)).alloc (.cells #[.int .i64 6, .string ⟨#[]⟩] 44)) := ((Fr.refl no w2).alloc _ _).new ((Fr.refl no _).alloc _ _) (fun _ _ f => f)
 have E5 : ((w2.alloc (.cells #[.int .i64 6, .string ⟨#[]⟩] 44)).alloc (.cells #[.int .i64 6, .string ⟨#[]⟩] 44)).heap[w2.heap.size + 1]? = some (.cells #[.int .i64 6, .string ⟨#[]⟩] 44 (0, 0)) := by rw [← size_alloc w2 (.cells #[.int .i64 6, .string ⟨#[]⟩] 44)]; exact heap_alloc_new _ _
 have s5 : ((w2.alloc (.cells #[.int .i64 6, .string ⟨#[]⟩] 44)).alloc (.cells #[.int .i64 6, .string ⟨#[]⟩] 44)).heap.size = w2.heap.size + 2 := by rw [size_alloc, size_alloc]
 generalize (w2.alloc (.cells #[.int .i64 6, .string ⟨#[]⟩] 44)).alloc (.cells #[.int .i64 6, .string ⟨#[]⟩] 44) = W5 at *
 refine (repeat2 W5 (w2.heap.size + 1) top E5).mono ?_
 rintro e w6 ⟨v6, rfl, o6, f6⟩
 obtain ⟨q6, k6, hv6⟩ := o6.form
 have hv6' : v6 = .slice q6 2 k6 := hv6
 clear hv6
 subst hv6'
 obtain ⟨o2, n2, f2, b2⟩ := HO2.out
 have HO3 : Hid (OwnG elTy w6 (.slice q2 1 k2) [⟨4, cn⟩]) := (o2.keep F5).keep f6
 have HS6 : Hid (Src Tryz.prog elTy.n elTy.t (.slice q6 2 k6) ([top, top] : List Ty).length (cg elTy [top, top]) w6) := by
  have sl := o6.sl okTy
  cases q6 with
  | none => have := sl.none_nil; simp at this
  | some a => exact sl.src okTy
 have f16 : Fr no W1 w6 := (f2.new F5 (fun _ _ f => f)).new f6 (fun _ _ f => f)
 have HST : Hid (∀ v' w7, OwnG elTy w7 v' ([⟨4, cn⟩] ++ [top, top]) → Sp no (.slice q2 1 k2) w6 v' w7 → ∃ q k, v' = .slice q 3 k ∧ Hid (OwnG elTy w7 (.slice q 3 k) [⟨4, cn⟩, top, top] ∧ NewV W1 (.slice q 3 k) ∧ Fr no w w7) ∧ w7.heap[w.heap.size + 1]? = some (.cells #[.bool false, .slice none 0 0, .slice none 0 0, .slice none 0 0] 67 (0, 0))) := fun v' w7 o7 s7 => by
  obtain ⟨m7, f7⟩ := n2.step f16 s7
  obtain ⟨q7, k7, rfl⟩ := o7.form
  exact ⟨q7, k7, rfl, ⟨o7, m7, HF1.out.new f7 (fun _ _ f => f)⟩, f7.heap HE1.out (fun f => f)⟩
 clear HO2 o2 n2 f2 b2 o6 f6 F5 E5 s5 L5 L2 f16 HO1 HF2 c1 HP
 go_wp2_with (first | (at_builtin; refine wpList_apdG okTy _ rfl rfl _ _ rfl (.slice q2 1 k2) [⟨4, cn⟩] rfl HO3.out _ rfl [top, top] HS6.out (by simp) (by simp) ?_; intro v' w7 o7 s7; obtain ⟨q7, k7, rfl, HO7, B7⟩ := HST.out v' w7 o7 s7; have C4 := chain4 B7 (.bool true) (.slice q7 3 k7) (.slice none 0 0) (.slice none 0 0); have F4 := frc4 w7 (w.heap.size + 1) (.bool true) (.slice q7 3 k7) (.slice none 0 0) (.slice none 0 0); have fz := fun o => frozen_at (o := o) B7; have HZ : Hid (_ ∧ _) := And.intro C4 F4; obtain ⟨z0, z1, z2, z3⟩ := box4 B7; clear o7 s7 HST C4 F4 B7))
 refine bodyPost_ret (results_82 _ (w.heap.size + 1) _ _ _ _ HZ.out.1 _ rfl) rfl ?_
 obtain ⟨o7, n7, f7⟩ := HO7.out
 refine ⟨⟨true, ⟨q7, 3, k7⟩, ⟨none, 0, 0⟩, ⟨none, 0, 0⟩⟩, rfl, rfl, rfl, rfl, o7.kept HZ.out.2 (fun k hk e => ?_), fun k hk => ?_, f7.new HZ.out.2 (fun i hi e => by omega)⟩
 · have := n7 k hk
   omega
 · have := n7 k hk
   omega
set_option maxRecDepth 100000 in
set_option maxHeartbeats 4000000 in
theorem entry_2 (w : World) (cn : ByteArray) (m : Ms) (hp : m.p.n = 0) (hp0 : m.p.a = none → m.p.c = 0) (hlo : m.lo = 2) :
 Calls Tryz.prog 116 #[.string cn, msV m] w fun e w' => ∃ s : Sa, e = .returned (saV s) ∧ s.r = true ∧ s.st = ⟨none, 0, 0⟩ ∧ s.lk = ⟨none, 0, 0⟩ ∧ OwnG elTy w' (.slice s.lo.a s.lo.n s.lo.c) [⟨4, cn⟩, top] ∧ NewV w (.slice s.lo.a s.lo.n s.lo.c) ∧ Fr no w w' := by
 obtain ⟨mn, ⟨pa, pn, pc⟩, ⟨rk, rc⟩, lo, st, ⟨ca, cn', cc⟩, ⟨ha, hn, hc⟩⟩ := m
 simp only at hp hp0 hlo
 subst hp hlo
 unfold msV
 simp only
 generalize hW1 : (w.alloc (.cells #[.string mn, .slice pa 0 pc, .int .i64 rk, .string rc, .int .i64 2, .int .i64 st, .slice ca cn' cc, .slice ha hn hc] 47)).alloc (.cells #[.bool false, .slice none 0 0, .slice none 0 0, .slice none 0 0] 67) = W1
 have G0 : Fr no w (w.alloc (.cells #[.string mn, .slice pa 0 pc, .int .i64 rk, .string rc, .int .i64 2, .int .i64 st, .slice ca cn' cc, .slice ha hn hc] 47)) := (Fr.refl no w).alloc _ _
 have G1 : Fr no (w.alloc (.cells #[.string mn, .slice pa 0 pc, .int .i64 rk, .string rc, .int .i64 2, .int .i64 st, .slice ca cn' cc, .slice ha hn hc] 47)) W1 := by rw [← hW1]; exact (Fr.refl no _).alloc _ _
 have E0 : W1.heap[w.heap.size]? = some (.cells #[.string mn, .slice pa 0 pc, .int .i64 rk, .string rc, .int .i64 2, .int .i64 st, .slice ca cn' cc, .slice ha hn hc] 47 (0, 0)) := G1.heap (heap_alloc_new w _) (fun f => f)
 have E1 : W1.heap[w.heap.size + 1]? = some (.cells #[.bool false, .slice none 0 0, .slice none 0 0, .slice none 0 0] 67 (0, 0)) := by rw [← hW1, ← size_alloc w (.cells #[.string mn, .slice pa 0 pc, .int .i64 rk, .string rc, .int .i64 2, .int .i64 st, .slice ca cn' cc, .slice ha hn hc] 47)]; exact heap_alloc_new _ _
 have s1 : W1.heap.size = w.heap.size + 2 := by rw [← hW1, size_alloc, size_alloc]
 have F1 : Fr no w W1 := G0.new G1 (fun _ _ f => f)
 have HO1 : Hid (OwnG elTy (W1.alloc (.cells #[.int .i64 4, .string cn] 44)) (.slice (some ⟨w.heap.size + 2, 0, none⟩) 1 1) [⟨4, cn⟩]) := s1 ▸ own_lit okTy W1 [⟨4, cn⟩] _ (by rfl) (show 1 ≤ maxLen by decide)
 have HP : Hid _ := hp0
 have HF2 : Hid (Fr no W1 (W1.alloc (.cells #[.int .i64 4, .string cn] 44))) := (Fr.refl no W1).alloc _ _
 have c1 := cell_at (o := 1) (HF2.out.heap E0 (fun f => f))
 simp at c1
 have HST : Hid (∀ v' w2, OwnG elTy w2 v' ([⟨4, cn⟩] ++ []) → Sp no (.slice (some ⟨w.heap.size + 2, 0, none⟩) 1 1) (W1.alloc (.cells #[.int .i64 4, .string cn] 44)) v' w2 → ∃ q k, v' = .slice q 1 k ∧ Hid (OwnG elTy w2 (.slice q 1 k) [⟨4, cn⟩] ∧ NewV W1 (.slice q 1 k) ∧ Fr no W1 w2 ∧ w2.heap[w.heap.size + 1]? = some (.cells #[.bool false, .slice none 0 0, .slice none 0 0, .slice none 0 0] 67 (0, 0))) ∧ w2.cell? ⟨w.heap.size, 4, none⟩ = some (.int .i64 2) ∧ ((w2.alloc (.cells #[.int .i64 6, .string ⟨#[]⟩] 44)).alloc (.cells #[.int .i64 6, .string ⟨#[]⟩] 44)).cell? ⟨w.heap.size, 4, none⟩ = some (.int .i64 2)) := fun v' w2 o2 s2 => by
  have NV1 : NewV W1 (.slice (some ⟨w.heap.size + 2, 0, none⟩) 1 1) := fun k hk => by
   simp only [Value.ownBlock, Option.some.injEq] at hk
   omega
  obtain ⟨m2, f21⟩ := NV1.step HF2.out s2
  have L2 := cell_at (o := 4) (f21.heap E0 (fun f => f))
  obtain ⟨q2, k2, rfl⟩ := o2.form
  have f5 : Fr no w2 ((w2.alloc (.cells #[.int .i64 6, .string ⟨#[]⟩] 44)).alloc (.cells #[.int .i64 6, .string ⟨#[]⟩] 44)) := ((Fr.refl no w2).alloc _ _).new ((Fr.refl no _).alloc _ _) (fun _ _ f => f)
  exact ⟨q2, k2, rfl, ⟨o2, m2, f21, f21.heap E1 (fun f => f)⟩, L2, f5.cell L2 (fun f => f)⟩
 have HF1 : Hid _ := F1
 have HE1 : Hid _ := E1
 clear G0 G1 E0 E1 F1 hp0
 go_enter Tryz.func116, Tryz.ntmps116
 go_wp2_with (first | (at_builtin; refine wpList_apdG okTy _ rfl rfl _ _ rfl (.slice (some ⟨w.heap.size + 2, 0, none⟩) 1 1) [⟨4, cn⟩] rfl HO1.out _ rfl [] (src_empty _ _ _ HP.out) (by intro h; cases h) (by simp) ?_; intro v' w2 o2 s2; obtain ⟨q2, k2, rfl, HO2, L2, L5⟩ := HST.out v' w2 o2 s2; clear o2 s2 HST))
 have F5 : Fr no w2 ((w2.alloc (.cells #[.int .i64 6, .string ⟨#[]⟩] 44)).alloc (.cells #[.int .i64 6, .string ⟨#[]⟩] 44)) := ((Fr.refl no w2).alloc _ _).new ((Fr.refl no _).alloc _ _) (fun _ _ f => f)
 have E5 : ((w2.alloc (.cells #[.int .i64 6, .string ⟨#[]⟩] 44)).alloc (.cells #[.int .i64 6, .string ⟨#[]⟩] 44)).heap[w2.heap.size + 1]? = some (.cells #[.int .i64 6, .string ⟨#[]⟩] 44 (0, 0)) := by rw [← size_alloc w2 (.cells #[.int .i64 6, .string ⟨#[]⟩] 44)]; exact heap_alloc_new _ _
 have s5 : ((w2.alloc (.cells #[.int .i64 6, .string ⟨#[]⟩] 44)).alloc (.cells #[.int .i64 6, .string ⟨#[]⟩] 44)).heap.size = w2.heap.size + 2 := by rw [size_alloc, size_alloc]
 generalize (w2.alloc (.cells #[.int .i64 6, .string ⟨#[]⟩] 44)).alloc (.cells #[.int .i64 6, .string ⟨#[]⟩] 44) = W5 at *
 refine (repeat1 W5 (w2.heap.size + 1) top E5).mono ?_
 rintro e w6 ⟨v6, rfl, o6, f6⟩
 obtain ⟨q6, k6, hv6⟩ := o6.form
 have hv6' : v6 = .slice q6 1 k6 := hv6
 clear hv6
 subst hv6'
 obtain ⟨o2, n2, f2, b2⟩ := HO2.out
 have HO3 : Hid (OwnG elTy w6 (.slice q2 1 k2) [⟨4, cn⟩]) := (o2.keep F5).keep f6
 have HS6 : Hid (Src Tryz.prog elTy.n elTy.t (.slice q6 1 k6) ([top] : List Ty).length (cg elTy [top]) w6) := by
  have sl := o6.sl okTy
  cases q6 with
  | none => have := sl.none_nil; simp at this
  | some a => exact sl.src okTy
 have f16 : Fr no W1 w6 := (f2.new F5 (fun _ _ f => f)).new f6 (fun _ _ f => f)
 have HST : Hid (∀ v' w7, OwnG elTy w7 v' ([⟨4, cn⟩] ++ [top]) → Sp no (.slice q2 1 k2) w6 v' w7 → ∃ q k, v' = .slice q 2 k ∧ Hid (OwnG elTy w7 (.slice q 2 k) [⟨4, cn⟩, top] ∧ NewV W1 (.slice q 2 k) ∧ Fr no w w7) ∧ w7.heap[w.heap.size + 1]? = some (.cells #[.bool false, .slice none 0 0, .slice none 0 0, .slice none 0 0] 67 (0, 0))) := fun v' w7 o7 s7 => by
  obtain ⟨m7, f7⟩ := n2.step f16 s7
  obtain ⟨q7, k7, rfl⟩ := o7.form
  exact ⟨q7, k7, rfl, ⟨o7, m7, HF1.out.new f7 (fun _ _ f => f)⟩, f7.heap HE1.out (fun f => f)⟩
 clear HO2 o2 n2 f2 b2 o6 f6 F5 E5 s5 L5 L2 f16 HO1 HF2 c1 HP
 go_wp2_with (first | (at_builtin; refine wpList_apdG okTy _ rfl rfl _ _ rfl (.slice q2 1 k2) [⟨4, cn⟩] rfl HO3.out _ rfl [top] HS6.out (by simp) (by simp) ?_; intro v' w7 o7 s7; obtain ⟨q7, k7, rfl, HO7, B7⟩ := HST.out v' w7 o7 s7; have C4 := chain4 B7 (.bool true) (.slice q7 2 k7) (.slice none 0 0) (.slice none 0 0); have F4 := frc4 w7 (w.heap.size + 1) (.bool true) (.slice q7 2 k7) (.slice none 0 0) (.slice none 0 0); have fz := fun o => frozen_at (o := o) B7; have HZ : Hid (_ ∧ _) := And.intro C4 F4; obtain ⟨z0, z1, z2, z3⟩ := box4 B7; clear o7 s7 HST C4 F4 B7))
 refine bodyPost_ret (results_82 _ (w.heap.size + 1) _ _ _ _ HZ.out.1 _ rfl) rfl ?_
 obtain ⟨o7, n7, f7⟩ := HO7.out
 refine ⟨⟨true, ⟨q7, 2, k7⟩, ⟨none, 0, 0⟩, ⟨none, 0, 0⟩⟩, rfl, rfl, rfl, rfl, o7.kept HZ.out.2 (fun k hk e => ?_), fun k hk => ?_, f7.new HZ.out.2 (fun i hi e => by omega)⟩
 · have := n7 k hk
   omega
 · have := n7 k hk
   omega
set_option maxRecDepth 100000 in
set_option maxHeartbeats 4000000 in
theorem entry_1 (w : World) (cn : ByteArray) (m : Ms) (hp : m.p.n = 0) (hp0 : m.p.a = none → m.p.c = 0) (hlo : m.lo = 1) :
 Calls Tryz.prog 116 #[.string cn, msV m] w fun e w' => ∃ s : Sa, e = .returned (saV s) ∧ s.r = true ∧ s.st = ⟨none, 0, 0⟩ ∧ s.lk = ⟨none, 0, 0⟩ ∧ OwnG elTy w' (.slice s.lo.a s.lo.n s.lo.c) [⟨4, cn⟩] ∧ NewV w (.slice s.lo.a s.lo.n s.lo.c) ∧ Fr no w w' := by
 obtain ⟨mn, ⟨pa, pn, pc⟩, ⟨rk, rc⟩, lo, st, ⟨ca, cn', cc⟩, ⟨ha, hn, hc⟩⟩ := m
 simp only at hp hp0 hlo
 subst hp hlo
 unfold msV
 simp only
 generalize hW1 : (w.alloc (.cells #[.string mn, .slice pa 0 pc, .int .i64 rk, .string rc, .int .i64 1, .int .i64 st, .slice ca cn' cc, .slice ha hn hc] 47)).alloc (.cells #[.bool false, .slice none 0 0, .slice none 0 0, .slice none 0 0] 67) = W1
 have G0 : Fr no w (w.alloc (.cells #[.string mn, .slice pa 0 pc, .int .i64 rk, .string rc, .int .i64 1, .int .i64 st, .slice ca cn' cc, .slice ha hn hc] 47)) := (Fr.refl no w).alloc _ _
 have G1 : Fr no (w.alloc (.cells #[.string mn, .slice pa 0 pc, .int .i64 rk, .string rc, .int .i64 1, .int .i64 st, .slice ca cn' cc, .slice ha hn hc] 47)) W1 := by rw [← hW1]; exact (Fr.refl no _).alloc _ _
 have E0 : W1.heap[w.heap.size]? = some (.cells #[.string mn, .slice pa 0 pc, .int .i64 rk, .string rc, .int .i64 1, .int .i64 st, .slice ca cn' cc, .slice ha hn hc] 47 (0, 0)) := G1.heap (heap_alloc_new w _) (fun f => f)
 have E1 : W1.heap[w.heap.size + 1]? = some (.cells #[.bool false, .slice none 0 0, .slice none 0 0, .slice none 0 0] 67 (0, 0)) := by rw [← hW1, ← size_alloc w (.cells #[.string mn, .slice pa 0 pc, .int .i64 rk, .string rc, .int .i64 1, .int .i64 st, .slice ca cn' cc, .slice ha hn hc] 47)]; exact heap_alloc_new _ _
 have s1 : W1.heap.size = w.heap.size + 2 := by rw [← hW1, size_alloc, size_alloc]
 have F1 : Fr no w W1 := G0.new G1 (fun _ _ f => f)
 have HO1 : Hid (OwnG elTy (W1.alloc (.cells #[.int .i64 4, .string cn] 44)) (.slice (some ⟨w.heap.size + 2, 0, none⟩) 1 1) [⟨4, cn⟩]) := s1 ▸ own_lit okTy W1 [⟨4, cn⟩] _ (by rfl) (show 1 ≤ maxLen by decide)
 have HP : Hid _ := hp0
 have HF2 : Hid (Fr no W1 (W1.alloc (.cells #[.int .i64 4, .string cn] 44))) := (Fr.refl no W1).alloc _ _
 have c1 := cell_at (o := 1) (HF2.out.heap E0 (fun f => f))
 simp at c1
 have HST : Hid (∀ v' w2, OwnG elTy w2 v' ([⟨4, cn⟩] ++ []) → Sp no (.slice (some ⟨w.heap.size + 2, 0, none⟩) 1 1) (W1.alloc (.cells #[.int .i64 4, .string cn] 44)) v' w2 → ∃ q k, v' = .slice q 1 k ∧ Hid (OwnG elTy w2 (.slice q 1 k) [⟨4, cn⟩] ∧ NewV W1 (.slice q 1 k) ∧ Fr no w w2) ∧ w2.cell? ⟨w.heap.size, 4, none⟩ = some (.int .i64 1) ∧ w2.heap[w.heap.size + 1]? = some (.cells #[.bool false, .slice none 0 0, .slice none 0 0, .slice none 0 0] 67 (0, 0))) := fun v' w2 o2 s2 => by
  have NV1 : NewV W1 (.slice (some ⟨w.heap.size + 2, 0, none⟩) 1 1) := fun k hk => by
   simp only [Value.ownBlock, Option.some.injEq] at hk
   omega
  obtain ⟨m2, f21⟩ := NV1.step HF2.out s2
  have L2 := cell_at (o := 4) (f21.heap E0 (fun f => f))
  obtain ⟨q2, k2, rfl⟩ := o2.form
  exact ⟨q2, k2, rfl, ⟨o2, m2, F1.new f21 (fun _ _ f => f)⟩, L2, f21.heap E1 (fun f => f)⟩
 have HF1 : Hid _ := F1
 have HE1 : Hid _ := E1
 clear G0 G1 E0 E1 F1 hp0
 go_enter Tryz.func116, Tryz.ntmps116
 go_wp2_with (first | (at_builtin; refine wpList_apdG okTy _ rfl rfl _ _ rfl (.slice (some ⟨w.heap.size + 2, 0, none⟩) 1 1) [⟨4, cn⟩] rfl HO1.out _ rfl [] (src_empty _ _ _ HP.out) (by intro h; cases h) (by simp) ?_; intro v' w2 o2 s2; obtain ⟨q7, k7, rfl, HO7, L2, B7⟩ := HST.out v' w2 o2 s2; have C4 := chain4 B7 (.bool true) (.slice q7 1 k7) (.slice none 0 0) (.slice none 0 0); have F4 := frc4 w2 (w.heap.size + 1) (.bool true) (.slice q7 1 k7) (.slice none 0 0) (.slice none 0 0); have fz := fun o => frozen_at (o := o) B7; have HZ : Hid (_ ∧ _) := And.intro C4 F4; obtain ⟨z0, z1, z2, z3⟩ := box4 B7; clear o2 s2 HST C4 F4 B7))
 refine bodyPost_ret (results_82 _ (w.heap.size + 1) _ _ _ _ HZ.out.1 _ rfl) rfl ?_
 obtain ⟨o7, n7, f7⟩ := HO7.out
 refine ⟨⟨true, ⟨q7, 1, k7⟩, ⟨none, 0, 0⟩, ⟨none, 0, 0⟩⟩, rfl, rfl, rfl, rfl, o7.kept HZ.out.2 (fun k hk e => ?_), fun k hk => ?_, f7.new HZ.out.2 (fun i hi e => by omega)⟩
 · have := n7 k hk
   omega
 · have := n7 k hk
   omega
def Low (lo : Int) (ts : List Ty) : Prop := (lo = 1 ∧ ts = []) ∨ (lo = 3 ∧ ts = [top, top]) ∨ (lo = 2 ∧ ts = [top])
theorem Low.len {lo : Int} {ts : List Ty} (h : Low lo ts) : ts.length ≤ 7 := by
 rcases h with ⟨_, rfl⟩ | ⟨_, rfl⟩ | ⟨_, rfl⟩ <;> decide
theorem entry_any (w : World) (cn : ByteArray) (m : Ms) (hp : m.p.n = 0) (hp0 : m.p.a = none → m.p.c = 0) (ts : List Ty) (hlo : Low m.lo ts) :
 Calls Tryz.prog 116 #[.string cn, msV m] w fun e w' => ∃ s : Sa, e = .returned (saV s) ∧ s.r = true ∧ s.st = ⟨none, 0, 0⟩ ∧ s.lk = ⟨none, 0, 0⟩ ∧ OwnG elTy w' (.slice s.lo.a s.lo.n s.lo.c) (⟨4, cn⟩ :: ts) ∧ NewV w (.slice s.lo.a s.lo.n s.lo.c) ∧ Fr no w w' := by
 rcases hlo with ⟨h, rfl⟩ | ⟨h, rfl⟩ | ⟨h, rfl⟩
 · exact entry_1 w cn m hp hp0 h
 · exact entry_3 w cn m hp hp0 h
 · exact entry_2 w cn m hp hp0 h
end Go.Proofs.YtalgjpmaafooeaaGreatDoor
/- A flow laid: its block, its rows, its rules, the state in which a method begins. -/
namespace Go.Proofs.YtalgjpmaafooeaaGreatDoor
open Go.ChangeShapes Go.WideShapes Go.ChangeAt Go.RowKit
open H (ix NewV)
theorem ev_make {o : Oper} {a : Act} {w : World} (t : TypeId) (x : Nat) (v u : Value) (w' : World) (ho : o.op = .makeSlice t (.tmp x) (.tmp x)) (hx : a.eval (.tmp x) = v) (hr : (Instr.makeSlice t v v).run Tryz.prog w = .ok u w') : (execOp a.eval o).run Tryz.prog w = .ok (.value u) w' := by
 unfold execOp; simp [ho, hx, hr, Result.andThen]
section
variable {ops : Array Oper} {Q : Exit → Act → World → Prop}
theorem mkG {α : Type} {K : El α} (hK : K.Ok) (z : α) {n : Nat} (hn : n ≤ 1000) {i x : Nat} {o : Oper} {a : Act} {w W : World} {C : Act → World → Prop} (hi : ops[i]? = some o) (g : Fr no W w) (ho : o.op = .makeSlice K.t (.tmp x) (.tmp x))
 (hC : ∀ w2 b, OwnG K w2 (.slice (some ⟨b, 0, none⟩) n n) (List.replicate n z) → Fr no w w2 → Fr no W w2 → W.heap.size ≤ b → C (a.put o.dst (.slice (some ⟨b, 0, none⟩) n n)) w2)
 (hz : K.f z = K.z.cells.toList := by rfl) (hx : a.eval (.tmp x) = .int .i64 (n : Int) := by kernel_rfl) (hg : o.guard = none := by kernel_rfl) : wpOp Tryz.prog ops Q i C a w :=
 late_op hi hg (ev_make K.t x _ _ _ ho hx (run_made hK w n hn)) (hC _ _ (own_row hK w z hz n hn) ((Fr.refl no w).alloc _ _) (g.alloc _ _) g.size)
theorem mkH {α : Type} {K : H.El α} (hK : K.Ok) (z : α) {n : Nat} (hn : n ≤ 1000) {i x : Nat} {o : Oper} {a : Act} {w W : World} {C : Act → World → Prop} (hi : ops[i]? = some o) (g : Fr no W w) (ho : o.op = .makeSlice K.t (.tmp x) (.tmp x))
 (hC : ∀ w2 b, H.OwnG K w2 (.slice (some ⟨b, 0, none⟩) n n) (List.replicate n z) → Fr no w w2 → Fr no W w2 → W.heap.size ≤ b → C (a.put o.dst (.slice (some ⟨b, 0, none⟩) n n)) w2)
 (hz : [K.f z] = K.z.cells.toList := by rfl) (hx : a.eval (.tmp x) = .int .i64 (n : Int) := by kernel_rfl) (hg : o.guard = none := by kernel_rfl) : wpOp Tryz.prog ops Q i C a w :=
 late_op hi hg (ev_make K.t x _ _ _ ho hx (run_madeH hK w n hn)) (hC _ _ (own_rowH hK w z hz n hn) ((Fr.refl no w).alloc _ _) (g.alloc _ _) g.size)
end
theorem ev_index0 {o : Oper} {a : Act} {w : World} (t : TypeId) (x : Nat) (c v u : Value) (ho : o.op = .indexAddr t (.tmp x) (.const c)) (hx : a.eval (.tmp x) = v) (hr : (Instr.indexAt t v c).run Tryz.prog w = .ok u w) : (execOp a.eval o).run Tryz.prog w = .ok (.value u) w := by
 have hc : a.eval (.const c) = c := rfl
 unfold execOp; simp [ho, hx, hc, hr]
theorem ev_storeC {o : Oper} {a : Act} {w : World} (t : TypeId) (x : Nat) (c p : Value) (w' : World) (ho : o.op = .store t (.tmp x) (.const c)) (hx : a.eval (.tmp x) = p) (hr : (Instr.storeAt t p c).run Tryz.prog w = .ok () w') : (execOp a.eval o).run Tryz.prog w = .ok .skip w' := by
 have hc : a.eval (.const c) = c := rfl
 unfold execOp; simp [ho, hx, hc, hr, Result.andThen]
theorem lt_of_cell {w : World} {p : Addr} {u : Value} (h : w.cell? p = some u) : p.block < w.heap.size := by
 unfold World.cell? at h
 by_cases hb : p.block < w.heap.size
 · exact hb
 · rw [Array.getElem?_eq_none (by omega)] at h
   simp at h
theorem H.OwnG.has0 {w : World} {C n : Nat} {l : List Bool} (h : H.OwnG elB w (.slice (some ⟨C, 0, none⟩) n n) l) (hn : 0 < n) : ∃ v, w.cell? ⟨C, 0, none⟩ = some v := by
 rcases h.2 with ⟨e, _⟩ | ⟨g, cap, cur, e, _, hg, h1, h2, h3, _⟩
 · simp at e
 · simp only [Value.slice.injEq, Option.some.injEq, Addr.mk.injEq, and_true] at e
   obtain ⟨rfl, -, rfl⟩ := e
   exact ⟨_, by rw [cell_at hg, Array.getElem?_eq_getElem (by omega)]⟩
theorem SlG.keptP {α : Type} {K : El α} {P : Nat → Prop} {w w' : World} {a : Option Addr} {n c : Nat} {l : List α} (h : SlG K w (.slice a n c) l) (hf : Fr P w w') (hn : l ≠ [] → ∀ ad, a = some ad → ¬ P ad.block) : SlG K w' (.slice a n c) l := by
 obtain ⟨ad, cap, e, h1, h2, h3⟩ := h
 simp only [Value.slice.injEq] at e
 obtain ⟨rfl, rfl, rfl⟩ := e
 refine ⟨a, c, rfl, h1, h2, fun i x hx => ?_⟩
 obtain ⟨b, off, rfl, hj⟩ := h3 i x hx
 have hb : ¬ P b := hn (fun e => by rw [e] at hx; simp at hx) ⟨b, off, none⟩ rfl
 exact ⟨b, off, rfl, fun j u hu => hf.cell (hj j u hu) hb⟩
theorem SlG.blt {α : Type} {K : El α} (hK : K.Ok) {w : World} {a : Option Addr} {n c : Nat} {l : List α} (h : SlG K w (.slice a n c) l) (hl : l ≠ []) (ad : Addr) (ha : a = some ad) : ad.block < w.heap.size := by
 obtain ⟨ad', cap, e, h1, h2, h3⟩ := h
 simp only [Value.slice.injEq] at e
 obtain ⟨rfl, rfl, rfl⟩ := e
 subst ha
 obtain ⟨y, r, rfl⟩ := List.exists_cons_of_ne_nil hl
 obtain ⟨b, off, e, hj⟩ := h3 0 y rfl
 simp only [Option.some.injEq] at e
 subst e
 have h0 : 0 < (K.f y).length := by rw [hK.len]; exact hK.pos
 have := hj 0 _ (List.getElem?_eq_getElem h0)
 exact lt_of_cell (p := ⟨b, off + 0 * K.n + 0, none⟩) this
theorem RuAt.keptP {P : Nat → Prop} {w w' : World} {s : Ru} {x : Rl} (h : RuAt w s x) (hf : Fr P w w') (h1 : x.tk ≠ [] → ∀ ad, s.tk.a = some ad → ¬ P ad.block) (h2 : x.pt ≠ [] → ∀ ad, s.pt.a = some ad → ¬ P ad.block) : RuAt w' s x :=
 ⟨h.nv, h.tk.keptP hf h1, h.pt.keptP hf h2, h.pc⟩
abbrev zRu : Ru := ⟨false, ⟨none, 0, 0⟩, ⟨none, 0, 0⟩⟩
abbrev zSa : Sa := ⟨false, ⟨none, 0, 0⟩, ⟨none, 0, 0⟩, ⟨none, 0, 0⟩⟩
set_option maxRecDepth 100000 in
set_option maxHeartbeats 8000000 in
theorem newFlow_any (w : World) (p hp : Nat) (k : Ks) (m : Ms) (cd : List (Int × Int)) (hq : w.cell? ⟨p, 0, none⟩ = some (.pointer (some ⟨hp, 0, none⟩))) (hcd : SlG elIn w (.slice m.c.a m.c.n m.c.c) cd) (h0 : 0 < cd.length) (h2 : cd.length ≤ 200)
 (hops : ∀ x ∈ cd, x.1 ∈ plainOps ∨ x.1 = 33 ∧ m.ret.k = 0 ∨ x.1 = 25 ∧ AtMain w (.slice k.p.a k.p.n k.p.c) x.2) (hpn : m.p.n = 0) (hp0 : m.p.a = none → m.p.c = 0) (ts : List Ty) (hlo : Low m.lo ts) (hh : m.h.n = 0) (tr : Tr w) (fo : FitQ w (.pointer (some ⟨hp, 0, none⟩))) :
 Calls Tryz.prog 92 #[.pointer (some ⟨p, 0, none⟩), ksV k, msV m] w fun e w' => ∃ f S C c, e = .returned (.pointer (some ⟨f, 0, none⟩)) ∧ (∀ w2, Fr (Tn S C c) w' w2 → Con w2 f S C m.st cd (cd.map fun x => ruleP x.1)) ∧
  Fl w' S C c cd.length (⟨true, ⟨4, k.name⟩ :: ts, []⟩ :: List.replicate (cd.length - 1) ⟨false, [], []⟩) (true :: List.replicate (cd.length - 1) false) ∧ c ≤ w'.heap.size ∧ (f < c ∧ f ≠ S ∧ f ≠ C) ∧ (w.heap.size ≤ S ∧ w.heap.size ≤ C ∧ w.heap.size ≤ c) ∧ Fr no w w' := by
 obtain ⟨kn, ks, ⟨kpa, kpn, kpc⟩, ⟨kfa, kfn, kfc⟩, ⟨kma, kmn, kmc⟩⟩ := k
 obtain ⟨mn, ⟨pa, pn, pc⟩, ⟨rk, rc⟩, lo, st, ⟨ca, cn', cc⟩, ⟨ha, hn, hc⟩⟩ := m
 simp only at hcd hops hpn hp0 hlo hh ⊢
 subst hpn hh
 obtain ⟨ad, cap, hv, hcl, hcm, hit⟩ := hcd
 simp only [Value.slice.injEq] at hv
 obtain ⟨rfl, rfl, rfl⟩ := hv
 obtain ⟨cb, co, rfl, -⟩ := hit 0 cd[0] (List.getElem?_eq_getElem h0)
 have HIT : Hid (∀ (i : Nat) (x : Int × Int), cd[i]? = some x → w.cell? ⟨cb, co + i * 2, none⟩ = some (.int .i64 x.1) ∧ w.cell? ⟨cb, co + i * 2 + 1, none⟩ = some (.int .i64 x.2)) := fun i x hx => by
  obtain ⟨b', off', e, hj⟩ := hit i x hx
  simp only [Option.some.injEq, Addr.mk.injEq, and_true] at e
  obtain ⟨rfl, rfl⟩ := e
  exact ⟨hj 0 _ rfl, hj 1 _ rfl⟩
 clear hit
 generalize hcdl : cd.length = n at *
 unfold ksV msV
 simp only
 generalize hW1 : (w.alloc (.cells #[.string kn, .string ks, .slice kpa kpn kpc, .slice kfa kfn kfc, .slice kma kmn kmc] 51)).alloc (.cells #[.string mn, .slice pa 0 pc, .int .i64 rk, .string rc, .int .i64 lo, .int .i64 st, .slice (some ⟨cb, co, none⟩) n cc, .slice ha 0 hc] 47) = W1
 have G0 : Fr no w (w.alloc (.cells #[.string kn, .string ks, .slice kpa kpn kpc, .slice kfa kfn kfc, .slice kma kmn kmc] 51)) := (Fr.refl no w).alloc _ _
 have G1 : Fr no (w.alloc (.cells #[.string kn, .string ks, .slice kpa kpn kpc, .slice kfa kfn kfc, .slice kma kmn kmc] 51)) W1 := by rw [← hW1]; exact (Fr.refl no _).alloc _ _
 have F1 : Fr no w W1 := G0.new G1 (fun _ _ f => f)
 have E0 : W1.heap[w.heap.size]? = some (.cells #[.string kn, .string ks, .slice kpa kpn kpc, .slice kfa kfn kfc, .slice kma kmn kmc] 51 (0, 0)) := G1.heap (heap_alloc_new w _) (fun f => f)
 have E1 : W1.heap[w.heap.size + 1]? = some (.cells #[.string mn, .slice pa 0 pc, .int .i64 rk, .string rc, .int .i64 lo, .int .i64 st, .slice (some ⟨cb, co, none⟩) n cc, .slice ha 0 hc] 47 (0, 0)) := by rw [← hW1, ← size_alloc w (.cells #[.string kn, .string ks, .slice kpa kpn kpc, .slice kfa kfn kfc, .slice kma kmn kmc] 51)]; exact heap_alloc_new _ _
 have s1 : W1.heap.size = w.heap.size + 2 := by rw [← hW1, size_alloc, size_alloc]
 have HL : Hid (∀ w', Fr no W1 w' → w'.heap[w.heap.size]? = some (.cells #[.string kn, .string ks, .slice kpa kpn kpc, .slice kfa kfn kfc, .slice kma kmn kmc] 51 (0, 0)) ∧ w'.heap[w.heap.size + 1]? = some (.cells #[.string mn, .slice pa 0 pc, .int .i64 rk, .string rc, .int .i64 lo, .int .i64 st, .slice (some ⟨cb, co, none⟩) n cc, .slice ha 0 hc] 47 (0, 0)) ∧ Fr no w w') := fun w' hf => ⟨hf.heap E0 (fun f => f), hf.heap E1 (fun f => f), F1.new hf (fun _ _ f => f)⟩
 have HH : Hid (∀ w', Fr no W1 w' → Calls Tryz.prog 114 #[.pointer (some ⟨p, 0, none⟩)] w' fun e w2 => e = .returned (.pointer (some ⟨hp, 0, none⟩)) ∧ w2 = w') := fun w' hf => hierOf_any w' p _ (hf.cell (F1.cell hq (fun f => f)) (fun f => f))
 have HS0 : Hid (Fr no W1 W1.drew) := (Fr.refl no W1).drew
 have HN : Hid (n ≤ 1000) := Nat.le_trans h2 (by decide)
 have HOPS : Hid _ := hops
 have HFO : Hid (FitQ w (.pointer (some ⟨hp, 0, none⟩))) := fo
 have HLO : Hid (Low lo ts) := hlo
 have HP0 : Hid _ := hp0
 have HQ : Hid _ := hq
 have L6 := cell_at (o := 6) E1
 simp at L6
 have HS1 : Hid _ := s1
 clear G0 G1 F1 E0 E1 hops hp0 hq s1 fo hlo
 go_enter Tryz.func92, Tryz.ntmps92
 go_wp2_with fail
 refine late_begin (S := fun w' => Fr no W1 w') (g := 13) (by kernel_rfl) ?_
 refine lateP 0 (ptr p 0) rfl (fun _ => ev_move 0 _ rfl (by kernel_rfl)) (fun _ => HS0.out) ?_
 refine lateT 2 (.agg #[.string mn, .slice pa 0 pc, .int .i64 rk, .string rc, .int .i64 lo, .int .i64 st, .slice (some ⟨cb, co, none⟩) n cc, .slice ha 0 hc]) rfl (fun w' hS => ev_load 47 5 (.pointer (some ⟨w.heap.size + 1, 0, none⟩)) _ rfl (by kernel_rfl) (load_row w' (w.heap.size + 1) 47 _ _ (HL.out w' hS).2.1 Tryz.underlying47 rfl (by kernel_rfl))) (HS0.out) ?_
 refine lateP 3 (ptr w.heap.size 2) rfl (fun _ => ev_field 51 4 2 (ptr w.heap.size 0) _ rfl (by kernel_rfl) (by kernel_rfl)) (fun _ => HS0.out) ?_
 refine lateT 4 (.slice kpa kpn kpc) rfl (fun w' hS => ev_load 36 17 (ptr w.heap.size 2) _ rfl (by kernel_rfl) (by simp [go_sem, cell_at (o := 2) (HL.out w' hS).1])) (HS0.out) ?_
 refine lateP 5 (.int .i64 (n : Int)) rfl (fun _ => ev_move 7 _ rfl (by kernel_rfl)) (fun _ => HS0.out) ?_
 refine lateP 7 (.int .i64 (n : Int)) rfl (fun _ => ev_move 7 _ rfl (by kernel_rfl)) (fun _ => HS0.out) ?_
 refine lateP 9 (.int .i64 (n : Int)) rfl (fun _ => ev_move 7 _ rfl (by kernel_rfl)) (fun _ => HS0.out) ?_
 refine with_cont (m := 3) (Nat × Nat × Nat) #[true, true, true, true, true, true, true, true, true, true, true, false, false, false] (fun x => { tmps := #[ptr p 0, .agg #[.string kn, .string ks, .slice kpa kpn kpc, .slice kfa kfn kfc, .slice kma kmn kmc], .agg #[.string mn, .slice pa 0 pc, .int .i64 rk, .string rc, .int .i64 lo, .int .i64 st, .slice (some ⟨cb, co, none⟩) n cc, .slice ha 0 hc], undef, ptr w.heap.size 0, .pointer (some ⟨w.heap.size + 1, 0, none⟩), .pointer none, .int .i64 (n : Int), undef, undef, undef, .pointer (some ⟨w.heap.size + 1, 6, none⟩), .slice (some ⟨cb, co, none⟩) n cc, .int .i64 (n : Int), ptr p 0, ptr hp 0, .agg #[.string mn, .slice pa 0 pc, .int .i64 rk, .string rc, .int .i64 lo, .int .i64 st, .slice (some ⟨cb, co, none⟩) n cc, .slice ha 0 hc], ptr w.heap.size 2, .slice kpa kpn kpc, .int .i64 (n : Int), .slice (some ⟨x.1, 0, none⟩) n n, .int .i64 (n : Int), .slice (some ⟨x.2.1, 0, none⟩) n n, .int .i64 (n : Int), .slice (some ⟨x.2.2, 0, none⟩) n n, undef, undef, undef, undef, undef, undef, undef, undef, undef, undef, undef, undef, undef, undef, undef, undef, undef, undef, undef, undef, undef, undef, undef, undef, undef, undef, undef, undef, undef, undef, undef, undef, undef, undef, undef, undef, undef, undef], defers := [] }) (fun x w' => OwnG elRu w' (.slice (some ⟨x.1, 0, none⟩) n n) (List.replicate n ⟨false, ⟨none, 0, 0⟩, ⟨none, 0, 0⟩⟩) ∧ OwnG elSa w' (.slice (some ⟨x.2.1, 0, none⟩) n n) (List.replicate n ⟨false, ⟨none, 0, 0⟩, ⟨none, 0, 0⟩, ⟨none, 0, 0⟩⟩) ∧ H.OwnG elB w' (.slice (some ⟨x.2.2, 0, none⟩) n n) (List.replicate n false) ∧ (W1.heap.size ≤ x.1 ∧ W1.heap.size ≤ x.2.1 ∧ W1.heap.size ≤ x.2.2) ∧ Fr no W1 w') ?_ (fun CONT => ?_)
 · rintro ⟨R, S, C⟩ w2 ⟨oR, oS, oC, ⟨lR, lS, lC⟩, g2⟩
   simp only at oR oS oC lR lS lC ⊢
   refine lateP 11 (.agg #[ptr hp 0, .string mn, .slice pa 0 pc, .int .i64 rk, .string rc, .int .i64 lo, .int .i64 st, .slice (some ⟨cb, co, none⟩) n cc, .slice ha 0 hc, .slice kpa kpn kpc, .slice (some ⟨R, 0, none⟩) n n, .slice (some ⟨S, 0, none⟩) n n, .slice (some ⟨C, 0, none⟩) n n]) rfl (fun _ => by kernel_rfl) (fun _ => g2) ?_
   refine late_all [12] (by kernel_rfl) (by simp) (fun jj hjj => ?_)
   obtain rfl := one_of hjj
   refine late_op rfl rfl (show _ = Result.ok (Next.value (ptr w2.heap.size 0)) (w2.alloc (.cells #[ptr hp 0, .string mn, .slice pa 0 pc, .int .i64 rk, .string rc, .int .i64 lo, .int .i64 st, .slice (some ⟨cb, co, none⟩) n cc, .slice ha 0 hc, .slice kpa kpn kpc, .slice (some ⟨R, 0, none⟩) n n, .slice (some ⟨S, 0, none⟩) n n, .slice (some ⟨C, 0, none⟩) n n] 176)) by kernel_rfl) ?_
   have g3 : Fr no w2 (w2.alloc (.cells #[.pointer (some ⟨hp, 0, none⟩), .string mn, .slice pa 0 pc, .int .i64 rk, .string rc, .int .i64 lo, .int .i64 st, .slice (some ⟨cb, co, none⟩) n cc, .slice ha 0 hc, .slice kpa kpn kpc, .slice (some ⟨R, 0, none⟩) n n, .slice (some ⟨S, 0, none⟩) n n, .slice (some ⟨C, 0, none⟩) n n] 176)) := (Fr.refl no w2).alloc _ _
   have EF : (w2.alloc (.cells #[.pointer (some ⟨hp, 0, none⟩), .string mn, .slice pa 0 pc, .int .i64 rk, .string rc, .int .i64 lo, .int .i64 st, .slice (some ⟨cb, co, none⟩) n cc, .slice ha 0 hc, .slice kpa kpn kpc, .slice (some ⟨R, 0, none⟩) n n, .slice (some ⟨S, 0, none⟩) n n, .slice (some ⟨C, 0, none⟩) n n] 176)).heap[w2.heap.size]? = some (.cells #[.pointer (some ⟨hp, 0, none⟩), .string mn, .slice pa 0 pc, .int .i64 rk, .string rc, .int .i64 lo, .int .i64 st, .slice (some ⟨cb, co, none⟩) n cc, .slice ha 0 hc, .slice kpa kpn kpc, .slice (some ⟨R, 0, none⟩) n n, .slice (some ⟨S, 0, none⟩) n n, .slice (some ⟨C, 0, none⟩) n n] 176 (0, 0)) := heap_alloc_new w2 _
   have sF : (w2.alloc (.cells #[.pointer (some ⟨hp, 0, none⟩), .string mn, .slice pa 0 pc, .int .i64 rk, .string rc, .int .i64 lo, .int .i64 st, .slice (some ⟨cb, co, none⟩) n cc, .slice ha 0 hc, .slice kpa kpn kpc, .slice (some ⟨R, 0, none⟩) n n, .slice (some ⟨S, 0, none⟩) n n, .slice (some ⟨C, 0, none⟩) n n] 176)).heap.size = w2.heap.size + 1 := size_alloc _ _
   generalize w2.alloc (.cells #[.pointer (some ⟨hp, 0, none⟩), .string mn, .slice pa 0 pc, .int .i64 rk, .string rc, .int .i64 lo, .int .i64 st, .slice (some ⟨cb, co, none⟩) n cc, .slice ha 0 hc, .slice kpa kpn kpc, .slice (some ⟨R, 0, none⟩) n n, .slice (some ⟨S, 0, none⟩) n n, .slice (some ⟨C, 0, none⟩) n n] 176) = W3 at *
   have g13 : Fr no W1 W3 := g2.new g3 (fun _ _ f => f)
   refine ⟨fun _ => g13, ?_⟩
   refine late_all [13] (by kernel_rfl) (by simp) (fun jj hjj => ?_)
   obtain rfl := one_of hjj
   refine late_op rfl rfl (ev_assign 26 (ptr w2.heap.size 0) rfl (by kernel_rfl)) ?_
   refine ⟨(fun h => Bool.noConfusion (show true = false from h)), ?_⟩
   refine late_done (by kernel_rfl) ?_
   generalize hF : w2.heap.size = F at *
   have HO : Hid (OwnG elRu W3 (.slice (some ⟨R, 0, none⟩) n n) (List.replicate n ⟨false, ⟨none, 0, 0⟩, ⟨none, 0, 0⟩⟩) ∧ OwnG elSa W3 (.slice (some ⟨S, 0, none⟩) n n) (List.replicate n ⟨false, ⟨none, 0, 0⟩, ⟨none, 0, 0⟩, ⟨none, 0, 0⟩⟩) ∧ H.OwnG elB W3 (.slice (some ⟨C, 0, none⟩) n n) (List.replicate n false)) := ⟨oR.keep g3, oS.keep g3, oC.keep g3⟩
   have lF : W1.heap.size ≤ F := hF ▸ g2.size
   clear oR oS oC g2 g3 HH
   rename_i hgo _
   refine hgo _ _ ?_
   refine wp_eq (a' := { tmps := #[.pointer (some ⟨p, 0, none⟩), .agg #[.string kn, .string ks, .slice kpa kpn kpc, .slice kfa kfn kfc, .slice kma kmn kmc], .agg #[.string mn, .slice pa 0 pc, .int .i64 rk, .string rc, .int .i64 lo, .int .i64 st, .slice (some ⟨cb, co, none⟩) n cc, .slice ha 0 hc], undef, .pointer (some ⟨w.heap.size, 0, none⟩), .pointer (some ⟨w.heap.size + 1, 0, none⟩), .pointer none, .int .i64 (n : Int), .pointer (some ⟨F, 0, none⟩), undef, undef, .pointer (some ⟨w.heap.size + 1, 6, none⟩), .slice (some ⟨cb, co, none⟩) n cc, .int .i64 (n : Int), .pointer (some ⟨p, 0, none⟩), .pointer (some ⟨hp, 0, none⟩), .agg #[.string mn, .slice pa 0 pc, .int .i64 rk, .string rc, .int .i64 lo, .int .i64 st, .slice (some ⟨cb, co, none⟩) n cc, .slice ha 0 hc], .pointer (some ⟨w.heap.size, 2, none⟩), .slice kpa kpn kpc, .int .i64 (n : Int), .slice (some ⟨R, 0, none⟩) n n, .int .i64 (n : Int), .slice (some ⟨S, 0, none⟩) n n, .int .i64 (n : Int), .slice (some ⟨C, 0, none⟩) n n, .agg #[.pointer (some ⟨hp, 0, none⟩), .string mn, .slice pa 0 pc, .int .i64 rk, .string rc, .int .i64 lo, .int .i64 st, .slice (some ⟨cb, co, none⟩) n cc, .slice ha 0 hc, .slice kpa kpn kpc, .slice (some ⟨R, 0, none⟩) n n, .slice (some ⟨S, 0, none⟩) n n, .slice (some ⟨C, 0, none⟩) n n], .pointer (some ⟨F, 0, none⟩), undef, undef, undef, undef, undef, undef, undef, undef, undef, undef, undef, undef, undef, undef, undef, undef, undef, undef, undef, undef, undef, undef, undef, undef, undef, undef, undef, undef, undef, undef, undef, undef, undef, undef, undef, undef], defers := [] }) (by kernel_rfl) ?_
   clear hgo
   have L63 := cell_at (o := 6) (HL.out W3 g13).2.1
   simp at L63
   have HR : Hid (F < W3.heap.size ∧ F ≠ R ∧ F ≠ S ∧ F ≠ C ∧ R ≠ S ∧ R ≠ C ∧ S ≠ C ∧ R < W3.heap.size ∧ S < W3.heap.size ∧ C < W3.heap.size ∧ W1.heap.size ≤ F) := by
    obtain ⟨o1, o2, o3⟩ := HO.out
    obtain ⟨c1, t1⟩ := o1.tag (k := R) rfl
    obtain ⟨c2, t2⟩ := o2.tag (k := S) rfl
    obtain ⟨c3, t3⟩ := o3.tag (k := C) rfl
    exact ⟨by omega, ne_tag EF t1 (by decide), ne_tag EF t2 (by decide), ne_tag EF t3 (by decide), ne_tag t1 t2 (by decide), ne_tag t1 t3 (by decide), ne_tag t2 t3 (by decide), lt_of_heap t1, lt_of_heap t2, lt_of_heap t3, lF⟩
   have HEF : Hid _ := EF
   have HG : Hid _ := g13
   have HLT : Hid (W1.heap.size ≤ R ∧ W1.heap.size ≤ S ∧ W1.heap.size ≤ C) := ⟨lR, lS, lC⟩
   clear EF g13 lR lS lC sF hF L6 lF
   go_wp2_with fail
   go_loopw [30] (fun i wr => ∃ (k : Nat) (rs : List Ru), i = .int .i64 (k : Int) ∧ k ≤ n ∧ OwnG elRu wr (.slice (some ⟨R, 0, none⟩) n n) rs ∧ rs.length = n ∧ (∀ (j : Nat) (s : Ru) (x : Int × Int), j < k → rs[j]? = some s → cd[j]? = some x → RuAt wr s (ruleP x.1) ∧ NewR W3 s) ∧ Fr (fun b => b = R) W3 wr) (fun i _ => n - (intOf i).toNat)
   case atStart => exact ⟨0, _, rfl, Nat.zero_le _, HO.out.1, by simp, fun j s x hj => absurd hj (Nat.not_lt_zero _), Fr.refl _ _⟩
   case round =>
    obtain ⟨k, rs, rfl, hkn, oR, hrl, hru, fR⟩ := hrel
    by_cases hlt : k < n
    · have hki : (k : Int) < (n : Int) := by omega
      obtain ⟨x, hx⟩ : ∃ x, cd[k]? = some x := ⟨_, List.getElem?_eq_getElem (by omega)⟩
      have fw1 : Fr no w W1 := (HL.out W1 (Fr.refl no W1)).2.2
      have cbl : cb < w.heap.size := lt_of_cell (HIT.out k x hx).1
      have hs1 := HS1.out
      have hlt3 := HLT.out
      have hr3 := HR.out
      have i0 : wr.cell? ⟨cb, co + k * 2, none⟩ = some (.int .i64 x.1) := fR.cell (HG.out.cell (fw1.cell (HIT.out k x hx).1 (fun f => f)) (fun f => f)) (fun e => by simp only at e; omega)
      have i1 : wr.cell? ⟨cb, co + k * 2 + 1, none⟩ = some (.int .i64 x.2) := fR.cell (HG.out.cell (fw1.cell (HIT.out k x hx).2 (fun f => f)) (fun f => f)) (fun e => by simp only at e; omega)
      generalize hW4 : wr.alloc (.cells #[.int .i64 x.1, .int .i64 x.2] 27) = W4
      have G4 : Fr no wr W4 := by rw [← hW4]; exact (Fr.refl no wr).alloc _ _
      have E4 : W4.heap[wr.heap.size]? = some (.cells #[.int .i64 x.1, .int .i64 x.2] 27 (0, 0)) := by rw [← hW4]; exact heap_alloc_new wr _
      have f34 : Fr (fun b => b = R) W3 W4 := fR.trans G4 (fun _ _ e => e) (fun _ _ e => e.elim)
      have HL4 : Hid (∀ w', Fr no W4 w' → w'.heap[w.heap.size]? = some (.cells #[.string kn, .string ks, .slice kpa kpn kpc, .slice kfa kfn kfc, .slice kma kmn kmc] 51 (0, 0)) ∧ w'.heap[w.heap.size + 1]? = some (.cells #[.string mn, .slice pa 0 pc, .int .i64 rk, .string rc, .int .i64 lo, .int .i64 st, .slice (some ⟨cb, co, none⟩) n cc, .slice ha 0 hc] 47 (0, 0)) ∧ w'.cell? ⟨F, 10, none⟩ = some (.slice (some ⟨R, 0, none⟩) n n) ∧ w'.heap[wr.heap.size]? = some (.cells #[.int .i64 x.1, .int .i64 x.2] 27 (0, 0))) := fun w' hf => by
       obtain ⟨e1, e2, -⟩ := HL.out W3 HG.out
       exact ⟨hf.heap (f34.heap e1 (by omega)) (fun f => f), hf.heap (f34.heap e2 (by omega)) (fun f => f), hf.cell (f34.cell (cell_at (o := 10) HEF.out) hr3.2.1) (fun f => f), hf.heap E4 (fun f => f)⟩
      have HIX : Hid (∀ w' : World, (Instr.indexAt 174 (.slice (some ⟨R, 0, none⟩) n n) (.int .i64 (k : Int))).run Tryz.prog w' = .ok (.pointer (some ⟨R, k * 3, none⟩)) w') := fun w' => by simp [go_sem, hki]
      have HS4 : Hid (Fr no W4 W4.drew) := (Fr.refl no W4).drew
      have HB : Hid (_ ∧ _ ∧ _ ∧ _ ∧ _ ∧ _) := ⟨oR.keep G4, hrl, hru, f34, G4, hx⟩
      have HAM : Hid (∀ a, AtMain w (.slice kpa kpn kpc) a → AtMain W4.drew (.slice kpa kpn kpc) a) := fun a ⟨b', off', n', cap', i', q1, q2, q3, q4⟩ => ⟨b', off', n', cap', i', q1, q2, q3, f34.cell (HG.out.cell (fw1.cell q4 (fun f => f)) (fun f => f)) (fun e => by have := lt_of_cell q4; simp only at e this; omega)⟩
      clear oR hrl hru f34 G4 E4 fR fw1 cbl hs1 hlt3 hr3
      have HCALL : Hid (Calls Tryz.prog 115 #[.pointer (some ⟨p, 0, none⟩), .slice kpa kpn kpc, .agg #[.string mn, .slice pa 0 pc, .int .i64 rk, .string rc, .int .i64 lo, .int .i64 st, .slice (some ⟨cb, co, none⟩) n cc, .slice ha 0 hc], .agg #[.int .i64 x.1, .int .i64 x.2]] W4.drew fun e w' => ∃ ru, e = .returned (ruV ru) ∧ RuAt w' ru (ruleP x.1) ∧ NewR W4.drew ru ∧ Fr no W4.drew w') := ruleOf_any W4.drew _ _ ⟨mn, ⟨pa, 0, pc⟩, ⟨rk, rc⟩, lo, st, ⟨some ⟨cb, co, none⟩, n, cc⟩, ⟨ha, 0, hc⟩⟩ x.1 x.2 ((HOPS.out x (List.mem_of_getElem? HB.out.2.2.2.2.2)).imp id (Or.imp id (fun q => ⟨q.1, HAM.out _ q.2⟩)))
      go_wp2_with fail
      refine late_begin (S := fun w' => Fr no W4 w') (g := 12) (by kernel_rfl) ?_
      refine lateP 0 (ptr F 0) rfl (fun _ => ev_move 8 _ rfl (by kernel_rfl)) (fun _ => HS4.out) ?_
      refine lateP 1 (ptr F 0) rfl (fun _ => ev_nil 35 ⟨F, 0, none⟩ rfl (by kernel_rfl)) (fun _ => HS4.out) ?_
      refine lateP 2 (ptr F 10) rfl (fun _ => ev_field 176 36 3 (ptr F 0) _ rfl (by kernel_rfl) (by kernel_rfl)) (fun _ => HS4.out) ?_
      refine lateT 3 (.slice (some ⟨R, 0, none⟩) n n) rfl (fun w' hS => ev_load 174 37 (ptr F 10) _ rfl (by kernel_rfl) (by simp [go_sem, (HL4.out w' hS).2.2.1])) (HS4.out) ?_
      refine lateP 4 (.int .i64 (k : Int)) rfl (fun _ => ev_move 9 _ rfl (by kernel_rfl)) (fun _ => HS4.out) ?_
      refine lateP 5 (ptr p 0) rfl (fun _ => ev_move 0 _ rfl (by kernel_rfl)) (fun _ => HS4.out) ?_
      refine lateP 6 (ptr w.heap.size 2) rfl (fun _ => ev_field 51 4 2 (ptr w.heap.size 0) _ rfl (by kernel_rfl) (by kernel_rfl)) (fun _ => HS4.out) ?_
      refine lateT 7 (.slice kpa kpn kpc) rfl (fun w' hS => ev_load 36 41 (ptr w.heap.size 2) _ rfl (by kernel_rfl) (by simp [go_sem, cell_at (o := 2) (HL4.out w' hS).1])) (HS4.out) ?_
      refine lateT 8 (.agg #[.string mn, .slice pa 0 pc, .int .i64 rk, .string rc, .int .i64 lo, .int .i64 st, .slice (some ⟨cb, co, none⟩) n cc, .slice ha 0 hc]) rfl (fun w' hS => ev_load 47 5 (.pointer (some ⟨w.heap.size + 1, 0, none⟩)) _ rfl (by kernel_rfl) (load_row w' (w.heap.size + 1) 47 _ _ (HL4.out w' hS).2.1 Tryz.underlying47 rfl (by kernel_rfl))) (HS4.out) ?_
      refine lateT 9 (.agg #[.int .i64 x.1, .int .i64 x.2]) rfl (fun w' hS => ev_load 27 10 (ptr wr.heap.size 0) _ rfl (by kernel_rfl) (load_row w' wr.heap.size 27 _ _ (HL4.out w' hS).2.2.2 Tryz.underlying27 rfl (by kernel_rfl))) (HS4.out) ?_
      refine late_all [10] (by kernel_rfl) (by simp) (fun jj hjj => ?_)
      obtain rfl := one_of hjj
      refine late_call (f := 115) rfl rfl (by kernel_rfl) (R := fun v w' => ∃ ru, v = ruV ru ∧ RuAt w' ru (ruleP x.1) ∧ NewR W4 ru ∧ Fr no W4 w') (HCALL.out.mono (fun e w' ⟨ru, h1, h2, h3, h4⟩ => ⟨_, h1, ru, rfl, h2, h3, (Fr.refl no W4).drew.new h4 (fun _ _ f => f)⟩)) (fun v w5 hv => ?_)
      obtain ⟨⟨rnv, ⟨ta, tn, tc⟩, ⟨qa, qn, qc⟩⟩, rfl, ru5, nr5, f5⟩ := hv
      unfold ruV
      refine ⟨fun _ => f5, ?_⟩
      refine lateP 11 (.pointer (some ⟨R, k * 3, none⟩)) rfl (fun _ => ev_index 174 38 39 (.slice (some ⟨R, 0, none⟩) n n) (.int .i64 (k : Int)) _ rfl (by kernel_rfl) (by kernel_rfl) (HIX.out _)) (fun _ => f5) ?_
      obtain ⟨cur, hcur, -, -, -, hcs, -⟩ := (HB.out.1.keep f5).cur
      obtain ⟨w6, r6, h6, F6⟩ := store_mid w5 R (k * 3) 195 195 cur #[.bool rnv, .slice ta tn tc, .slice qa qn qc] hcur (by rw [hcs]; show k * 3 + 3 ≤ n * 3; omega) (by kernel_rfl) (by kernel_rfl)
      refine late_all [12] (by kernel_rfl) (by simp) (fun jj hjj => ?_)
      obtain rfl := one_of hjj
      refine late_skip rfl rfl (ev_store 195 46 45 (.pointer (some ⟨R, k * 3, none⟩)) (.agg #[.bool rnv, .slice ta tn tc, .slice qa qn qc]) w6 rfl (by kernel_rfl) (by kernel_rfl) r6) ?_
      refine ⟨(fun h => Bool.noConfusion (show true = false from h)), ?_⟩
      refine late_done (by kernel_rfl) ?_
      obtain ⟨oR, hrl, hru, f34, G4, hx'⟩ := HB.out
      have hr3 := HR.out
      have s34 := f34.size
      have F5W : Fr (fun b => b = R) wr w5 := G4.trans f5 (fun _ _ e => e.elim) (fun _ _ e => e.elim)
      have F6W : Fr (fun b => b = R) wr w6 := F5W.trans F6 (fun _ _ e => e) (fun _ _ e => e)
      have F36 : Fr (fun b => b = R) W3 w6 := (f34.trans f5 (fun _ _ e => e) (fun _ _ e => e.elim)).trans F6 (fun _ _ e => e) (fun _ _ e => e)
      have HZ : Hid (OwnG elRu w6 (.slice (some ⟨R, 0, none⟩) n n) (rs.set k ⟨rnv, ⟨ta, tn, tc⟩, ⟨qa, qn, qc⟩⟩) ∧ (rs.set k ⟨rnv, ⟨ta, tn, tc⟩, ⟨qa, qn, qc⟩⟩).length = n ∧ (∀ (j : Nat) (s : Ru) (x : Int × Int), j < k + 1 → (rs.set k ⟨rnv, ⟨ta, tn, tc⟩, ⟨qa, qn, qc⟩⟩)[j]? = some s → cd[j]? = some x → RuAt w6 s (ruleP x.1) ∧ NewR W3 s) ∧ Fr (fun b => b = R) W3 w6) := by
       refine ⟨(oR.keep f5).puts okRu hcur (by omega) _ h6, by simp [hrl], fun j s y hj hs hy => ?_, F36⟩
       by_cases hjk : j = k
       · subst hjk
         rw [List.getElem?_set_self (by omega)] at hs
         simp only [Option.some.injEq] at hs
         subst hs
         rw [hx'] at hy
         simp only [Option.some.injEq] at hy
         subst hy
         refine ⟨ru5.keptP F6 (fun _ ad e => ?_) (fun _ ad e => ?_), fun ad e => ?_, fun ad e => ?_⟩
         · have := nr5.1 ad e
           show ¬ ad.block = R
           omega
         · have := nr5.2 ad e
           show ¬ ad.block = R
           omega
         · have := nr5.1 ad e
           omega
         · have := nr5.2 ad e
           omega
       · rw [List.getElem?_set_ne (by omega)] at hs
         obtain ⟨q1, q2⟩ := hru j s y (by omega) hs hy
         refine ⟨q1.keptP F6W (fun _ ad e => ?_) (fun _ ad e => ?_), q2⟩
         · have := q2.1 ad e
           show ¬ ad.block = R
           omega
         · have := q2.2 ad e
           show ¬ ad.block = R
           omega
      clear oR hrl hru f34 G4 hx' hr3 s34 F5W F6W F36 F6 h6 r6 hcs hcur f5 nr5 ru5 HCALL HB HIX HS4 HL4
      go_wp2_with fail
      go_roundw
      case rel => exact ⟨k + 1, _, by go_num, by omega, HZ.out⟩
      case measure => simp [intOf]; omega
    · have hkn' : k = n := by omega
      have hki : ¬ (k : Int) < (n : Int) := by omega
      have h0i : (0 : Int) < (n : Int) := by omega
      have hs1 := HS1.out
      have hlt3 := HLT.out
      have hr3 := HR.out
      have HL8 : Hid (∀ w', Fr no wr w' → w'.heap[w.heap.size]? = some (.cells #[.string kn, .string ks, .slice kpa kpn kpc, .slice kfa kfn kfc, .slice kma kmn kmc] 51 (0, 0)) ∧ w'.heap[w.heap.size + 1]? = some (.cells #[.string mn, .slice pa 0 pc, .int .i64 rk, .string rc, .int .i64 lo, .int .i64 st, .slice (some ⟨cb, co, none⟩) n cc, .slice ha 0 hc] 47 (0, 0)) ∧ w'.cell? ⟨F, 11, none⟩ = some (.slice (some ⟨S, 0, none⟩) n n) ∧ w'.cell? ⟨F, 12, none⟩ = some (.slice (some ⟨C, 0, none⟩) n n)) := fun w' hf => by
       obtain ⟨e1, e2, -⟩ := HL.out W3 HG.out
       exact ⟨hf.heap (fR.heap e1 (by omega)) (fun f => f), hf.heap (fR.heap e2 (by omega)) (fun f => f), hf.cell (fR.cell (cell_at (o := 11) HEF.out) hr3.2.1) (fun f => f), hf.cell (fR.cell (cell_at (o := 12) HEF.out) hr3.2.1) (fun f => f)⟩
      have HIX : Hid (∀ w' : World, (Instr.indexAt 62 (.slice (some ⟨S, 0, none⟩) n n) (.int .i64 0)).run Tryz.prog w' = .ok (.pointer (some ⟨S, 0, none⟩)) w' ∧ (Instr.indexAt 56 (.slice (some ⟨C, 0, none⟩) n n) (.int .i64 0)).run Tryz.prog w' = .ok (.pointer (some ⟨C, 0, none⟩)) w') := fun w' => ⟨by simp [go_sem, h0], by simp [go_sem, h0]⟩
      have HS8 : Hid (Fr no wr wr.drew) := (Fr.refl no wr).drew
      have HN0 : Hid (0 < n) := h0
      have HOS : Hid (OwnG elSa wr (.slice (some ⟨S, 0, none⟩) n n) (List.replicate n ⟨false, ⟨none, 0, 0⟩, ⟨none, 0, 0⟩, ⟨none, 0, 0⟩⟩) ∧ H.OwnG elB wr (.slice (some ⟨C, 0, none⟩) n n) (List.replicate n false)) := ⟨HO.out.2.1.kept fR (fun k hk e => by simp [Value.ownBlock] at hk; omega), HO.out.2.2.kept fR (fun k hk e => by simp [Value.ownBlock] at hk; omega)⟩
      have HB : Hid (_ ∧ _ ∧ _ ∧ _) := ⟨oR, hrl, hru, fR⟩
      have HCALL : Hid (Calls Tryz.prog 116 #[.string kn, .agg #[.string mn, .slice pa 0 pc, .int .i64 rk, .string rc, .int .i64 lo, .int .i64 st, .slice (some ⟨cb, co, none⟩) n cc, .slice ha 0 hc]] wr.drew fun e w' => ∃ s : Sa, e = .returned (saV s) ∧ s.r = true ∧ s.st = ⟨none, 0, 0⟩ ∧ s.lk = ⟨none, 0, 0⟩ ∧ OwnG elTy w' (.slice s.lo.a s.lo.n s.lo.c) (⟨4, kn⟩ :: ts) ∧ NewV wr.drew (.slice s.lo.a s.lo.n s.lo.c) ∧ Fr no wr.drew w') := entry_any wr.drew kn ⟨mn, ⟨pa, 0, pc⟩, ⟨rk, rc⟩, lo, st, ⟨some ⟨cb, co, none⟩, n, cc⟩, ⟨ha, 0, hc⟩⟩ rfl HP0.out ts HLO.out
      clear oR hrl hru fR hs1 hlt3 hr3 L63 hW1
      go_wp2_with fail
      refine late_begin (S := fun w' => Fr no wr w') (g := 13) (by kernel_rfl) ?_
      refine lateP 0 (ptr F 0) rfl (fun _ => ev_move 8 _ rfl (by kernel_rfl)) (fun _ => HS8.out) ?_
      refine lateP 1 (ptr F 0) rfl (fun _ => ev_nil 48 ⟨F, 0, none⟩ rfl (by kernel_rfl)) (fun _ => HS8.out) ?_
      refine lateP 2 (ptr F 11) rfl (fun _ => ev_field 176 49 4 (ptr F 0) _ rfl (by kernel_rfl) (by kernel_rfl)) (fun _ => HS8.out) ?_
      refine lateT 3 (.slice (some ⟨S, 0, none⟩) n n) rfl (fun w' hS => ev_load 62 50 (ptr F 11) _ rfl (by kernel_rfl) (by simp [go_sem, (HL8.out w' hS).2.2.1])) (HS8.out) ?_
      refine lateP 4 (ptr F 0) rfl (fun _ => ev_move 8 _ rfl (by kernel_rfl)) (fun _ => HS8.out) ?_
      refine lateP 5 (ptr F 0) rfl (fun _ => ev_nil 52 ⟨F, 0, none⟩ rfl (by kernel_rfl)) (fun _ => HS8.out) ?_
      refine lateP 6 (ptr F 12) rfl (fun _ => ev_field 176 53 5 (ptr F 0) _ rfl (by kernel_rfl) (by kernel_rfl)) (fun _ => HS8.out) ?_
      refine lateT 7 (.slice (some ⟨C, 0, none⟩) n n) rfl (fun w' hS => ev_load 56 54 (ptr F 12) _ rfl (by kernel_rfl) (by simp [go_sem, (HL8.out w' hS).2.2.2])) (HS8.out) ?_
      refine lateP 8 (ptr w.heap.size 0) rfl (fun _ => ev_field 51 4 0 (ptr w.heap.size 0) _ rfl (by kernel_rfl) (by kernel_rfl)) (fun _ => HS8.out) ?_
      refine lateT 9 (.string kn) rfl (fun w' hS => ev_load 9 56 (ptr w.heap.size 0) _ rfl (by kernel_rfl) (by simp [go_sem, cell_at (o := 0) (HL8.out w' hS).1])) (HS8.out) ?_
      refine lateT 10 (.agg #[.string mn, .slice pa 0 pc, .int .i64 rk, .string rc, .int .i64 lo, .int .i64 st, .slice (some ⟨cb, co, none⟩) n cc, .slice ha 0 hc]) rfl (fun w' hS => ev_load 47 5 (.pointer (some ⟨w.heap.size + 1, 0, none⟩)) _ rfl (by kernel_rfl) (load_row w' (w.heap.size + 1) 47 _ _ (HL8.out w' hS).2.1 Tryz.underlying47 rfl (by kernel_rfl))) (HS8.out) ?_
      refine late_all [11] (by kernel_rfl) (by simp) (fun jj hjj => ?_)
      obtain rfl := one_of hjj
      refine late_call (f := 116) rfl rfl (by kernel_rfl) (R := fun v w' => ∃ s : Sa, v = saV s ∧ s.r = true ∧ s.st = ⟨none, 0, 0⟩ ∧ s.lk = ⟨none, 0, 0⟩ ∧ OwnG elTy w' (.slice s.lo.a s.lo.n s.lo.c) (⟨4, kn⟩ :: ts) ∧ NewV wr.drew (.slice s.lo.a s.lo.n s.lo.c) ∧ Fr no wr.drew w') (HCALL.out.mono (fun e w' ⟨s, h1, h2⟩ => ⟨_, h1, s, rfl, h2⟩)) (fun v w5 hv => ?_)
      obtain ⟨⟨sr, ⟨la, ln, lc⟩, ⟨sa, sn, sc⟩, ⟨ka, kn', kc⟩⟩, rfl, hsr, hsst, hslk, ol, nl, f5⟩ := hv
      simp only [Sv.mk.injEq] at hsr hsst hslk ol nl
      obtain ⟨rfl, rfl, rfl⟩ := hsst
      obtain ⟨rfl, rfl, rfl⟩ := hslk
      subst hsr
      unfold saV
      have g5 : Fr no wr w5 := (Fr.refl no wr).drew.new f5 (fun _ _ f => f)
      refine ⟨fun _ => g5, ?_⟩
      refine lateP 12 (ptr S 0) rfl (fun _ => ev_index0 62 51 _ (.slice (some ⟨S, 0, none⟩) n n) _ rfl (by kernel_rfl) (HIX.out _).1) (fun _ => g5) ?_
      obtain ⟨cur, hcur, -, -, -, hcs, -⟩ := (HOS.out.1.keep g5).cur
      obtain ⟨w6, r6, h6, F6⟩ := store_mid w5 S 0 67 67 cur #[.bool true, .slice la ln lc, .slice none 0 0, .slice none 0 0] hcur (by rw [hcs]; show 0 + 4 ≤ n * 4; omega) (by kernel_rfl) (by kernel_rfl)
      refine late_all [13] (by kernel_rfl) (by simp) (fun jj hjj => ?_)
      obtain rfl := one_of hjj
      refine late_skip rfl rfl (ev_store 67 60 59 (ptr S 0) (.agg #[.bool true, .slice la ln lc, .slice none 0 0, .slice none 0 0]) w6 rfl (by kernel_rfl) (by kernel_rfl) r6) ?_
      refine ⟨(fun h => Bool.noConfusion (show true = false from h)), ?_⟩
      refine lateP 14 (ptr C 0) rfl (fun _ => ev_index0 56 55 _ (.slice (some ⟨C, 0, none⟩) n n) _ rfl (by kernel_rfl) (HIX.out _).2) (fun h => Bool.noConfusion (show true = false from h)) ?_
      have oC6 : H.OwnG elB w6 (.slice (some ⟨C, 0, none⟩) n n) (List.replicate n false) := (HOS.out.2.keep g5).kept F6 (fun k hk e => by simp [Value.ownBlock] at hk; exact HR.out.2.2.2.2.2.2.1 (by omega))
      obtain ⟨curC, hcurC⟩ := oC6.tag (k := C) rfl
      have cC : ∃ v, w6.cell? ⟨C, 0, none⟩ = some v := oC6.has0 HN0.out
      obtain ⟨v0, cC⟩ := cC
      refine late_all [15] (by kernel_rfl) (by simp) (fun jj hjj => ?_)
      obtain rfl := one_of hjj
      refine late_skip rfl rfl (ev_storeC 4 61 (.bool true) (ptr C 0) (w6.setCell ⟨C, 0, none⟩ (.bool true)) rfl (by kernel_rfl) (by simp [go_sem, cC, frozen_at (o := 0) hcurC])) ?_
      refine ⟨(fun h => Bool.noConfusion (show true = false from h)), ?_⟩
      refine late_done (by kernel_rfl) ?_
      go_wp2_with fail
      go_ret
      obtain ⟨oR, hrl, hru, fR⟩ := HB.out
      have hs1 := HS1.out
      have hlt3 := HLT.out
      have hr3 := HR.out
      have s3r := fR.size
      have fw3 : Fr no w W3 := (HL.out W3 HG.out).2.2
      have F7 : Fr (fun b => b = C) w6 (w6.setCell ⟨C, 0, none⟩ (.bool true)) := (Fr.refl (fun b => b = C) w6).setCell (p := ⟨C, 0, none⟩) (fun _ => rfl) _
      have oC7 := oC6.set1 (i := 0) (by simp; exact h0) true
      have FE : Fr (fun b => b = S ∨ b = C) wr (w6.setCell ⟨C, 0, none⟩ (.bool true)) := (g5.trans F6 (U := fun b => b = S ∨ b = C) (fun _ _ e => e.elim) (fun _ _ e => .inl e)).trans F7 (fun _ _ e => e) (fun _ _ e => .inr e)
      refine ⟨F, by kernel_rfl, S, C, wr.heap.size, fun w9 ft => ?_, ?_, FE.size, ⟨by omega, hr3.2.2.1, hr3.2.2.2.1⟩, by have := HG.out.size; omega, ?_⟩
      · have FT : Fr (Tn S C wr.heap.size) wr w9 := FE.trans ft (fun i _ e => e.elim .inl (fun h => .inr (.inl h))) (fun _ _ e => e)
        have keep : ∀ {p : Addr} {u : Value}, wr.cell? p = some u → p.block ≠ S → p.block ≠ C → w9.cell? p = some u := fun h a b => FT.cell h (fun t => by
         have := lt_of_cell h
         rcases t with e | e | e
         · exact a e
         · exact b e
         · omega)
        have cF : ∀ (o : Nat) (u : Value), (#[.pointer (some ⟨hp, 0, none⟩), .string mn, .slice pa 0 pc, .int .i64 rk, .string rc, .int .i64 lo, .int .i64 st, .slice (some ⟨cb, co, none⟩) n cc, .slice ha 0 hc, .slice kpa kpn kpc, .slice (some ⟨R, 0, none⟩) n n, .slice (some ⟨S, 0, none⟩) n n, .slice (some ⟨C, 0, none⟩) n n] : Array Value)[o]? = some u → w9.cell? ⟨F, o, none⟩ = some u := fun o u h => keep (fR.cell ((cell_at HEF.out).trans h) hr3.2.1) hr3.2.2.1 hr3.2.2.2.1
        have c1 : ∀ {b o : Nat} {u : Value}, w.cell? ⟨b, o, none⟩ = some u → w9.cell? ⟨b, o, none⟩ = some u := fun h => by
         have hb : _ < w.heap.size := lt_of_cell h
         simp only at hb
         exact keep (fR.cell (fw3.cell h (fun f => f)) (fun e => by simp only at e; omega)) (fun e => by simp only at e; omega) (fun e => by simp only at e; omega)
        refine ⟨⟨_, cF 0 _ rfl, FitQ.keep (w := w) HFO.out ((fw3.new fR (fun i hi e => by omega)).new FT (fun i hi t => by rcases t with e | e | e <;> omega))⟩, cF 6 _ rfl, ⟨cb, co, cc, by rw [hcdl]; exact cF 7 _ rfl, by omega, fun i x hx => ⟨c1 (HIT.out i x hx).1, c1 (HIT.out i x hx).2⟩⟩, ⟨_, _, cF 8 _ rfl⟩, ⟨R, rs, by rw [hcdl]; exact cF 10 _ rfl, ?_, by omega, by simp, fun i s x hs hx => ?_⟩, by rw [hcdl]; exact cF 11 _ rfl, by rw [hcdl]; exact cF 12 _ rfl, fun j hj => c1 (tr j hj), by omega⟩
        · rw [hcdl]
          refine (oR.sl okRu).keptP FT (fun _ ad e t => ?_)
          simp only [Option.some.injEq] at e
          subst e
          rcases t with e | e | e
          · exact hr3.2.2.2.2.1 e
          · exact hr3.2.2.2.2.2.1 e
          · simp only at e
            omega
        · rw [List.getElem?_map] at hx
          obtain ⟨y, hy, rfl⟩ := Option.map_eq_some_iff.1 hx
          have hin : i < cd.length := (List.getElem?_eq_some_iff.1 hy).1
          obtain ⟨q1, q2⟩ := hru i s y (by omega) hs hy
          have q := q1.keptP FT (fun hl ad e t => by
           have a1 := q2.1 ad e
           have a2 := q1.tk.blt okTy hl ad e
           rcases t with e | e | e <;> omega) (fun hl ad e t => by
           have a1 := q2.2 ad e
           have a2 := q1.pt.blt okTy hl ad e
           rcases t with e | e | e <;> omega)
          exact ⟨q.nv, q.tk, q.pt, q.pc⟩
      · have FL0 : Fl wr S C wr.heap.size n (List.replicate n ⟨false, [], []⟩) (List.replicate n false) := by
         refine ⟨⟨_, HOS.out.1, by simp, fun i s x hs hx => ?_, fun i j s t x y hij hs ht hx hy hxr => ?_⟩, HOS.out.2, by simp, by simp, by omega⟩
         · obtain rfl := (List.mem_replicate.1 (List.mem_of_getElem? hs)).2
           obtain rfl := (List.mem_replicate.1 (List.mem_of_getElem? hx)).2
           exact ⟨rfl, fun e => absurd e (by decide), fun e => absurd e (by decide), fun e => absurd e (by decide), by decide⟩
         · obtain rfl := (List.mem_replicate.1 (List.mem_of_getElem? hx)).2
           exact absurd hxr (by decide)
        have cp : Copied wr.drew w5 ⟨true, ⟨none, 0, 0⟩, ⟨none, 0, 0⟩, ⟨none, 0, 0⟩⟩ ⟨true, ⟨la, ln, lc⟩, ⟨none, 0, 0⟩, ⟨none, 0, 0⟩⟩ (⟨4, kn⟩ :: ts) [] := ⟨rfl, rfl, ol, OwnG.nil _ _, nl, NewV.nil _, fun g hg e => by simp [Value.ownBlock] at e, f5⟩
        have FLn := (FL0.keep HS8.out).new (Nat.le_refl _) (at' := 0) h0 (y := ⟨true, (⟨4, kn⟩ :: ts), []⟩) rfl rfl ⟨by have := HLO.out.len; simp only [List.length_cons]; omega, by simp⟩ cp hcur h6 F6 F7 oC7
        obtain ⟨n', rfl⟩ : ∃ n', n = n' + 1 := ⟨n - 1, by omega⟩
        simpa [List.replicate_succ] using FLn
      · exact (fw3.new fR (fun i hi e => by omega)).new FE (fun i hi e => by omega)
 · refine late_all [1, 6, 8, 10] (by kernel_rfl) (by simp) (fun jj hjj => ?_)
   simp only [List.mem_cons, List.not_mem_nil, or_false] at hjj
   rcases hjj with rfl | rfl | rfl | rfl
   · refine late_call (f := 114) rfl rfl (by kernel_rfl) (R := fun v w' => v = ptr hp 0 ∧ W1.drew = w') ((HH.out W1.drew HS0.out).mono (fun e w' ⟨h1, h2⟩ => ⟨_, h1, rfl, h2.symm⟩)) (fun v w1 hv => ?_)
     obtain ⟨rfl, rfl⟩ := hv
     refine ⟨fun _ => HS0.out, ?_⟩
     refine late_all [6, 8, 10] (by kernel_rfl) (by simp) (fun jj hjj => ?_)
     simp only [List.mem_cons, List.not_mem_nil, or_false] at hjj
     rcases hjj with rfl | rfl | rfl
     · refine mkG okRu zRu HN.out rfl HS0.out rfl (fun w2 b2 o2 q2 g2 l2 => ⟨fun _ => g2, ?_⟩)
       clear q2
       refine late_all [8, 10] (by kernel_rfl) (by simp) (fun jj hjj => ?_)
       simp only [List.mem_cons, List.not_mem_nil, or_false] at hjj
       rcases hjj with rfl | rfl
       · refine mkG okSa zSa HN.out rfl g2 rfl (fun w3 b3 o3 q3 g3 l3 => ⟨fun _ => g3, ?_⟩)
         have o3x6 := o2.keep q3
         clear q3
         refine late_all [10] (by kernel_rfl) (by simp) (fun jj hjj => ?_)
         obtain rfl := one_of hjj
         refine mkH elB_ok false HN.out rfl g3 rfl (fun w4 b4 o4 q4 g4 l4 => ⟨fun _ => g4, ?_⟩)
         have o4x8 := o3.keep q4
         have o4x6 := o3x6.keep q4
         clear q4
         exact lateN _ _ (CONT (b2, b3, b4) w4 ⟨o4x6, o4x8, o4, ⟨l2, l3, l4⟩, g4⟩)
       · refine mkH elB_ok false HN.out rfl g2 rfl (fun w5 b5 o5 q5 g5 l5 => ⟨fun _ => g5, ?_⟩)
         have o5x6 := o2.keep q5
         clear q5
         refine late_all [8] (by kernel_rfl) (by simp) (fun jj hjj => ?_)
         obtain rfl := one_of hjj
         refine mkG okSa zSa HN.out rfl g5 rfl (fun w6 b6 o6 q6 g6 l6 => ⟨fun _ => g6, ?_⟩)
         have o6x10 := o5.keep q6
         have o6x6 := o5x6.keep q6
         clear q6
         exact lateN _ _ (CONT (b2, b6, b5) w6 ⟨o6x6, o6, o6x10, ⟨l2, l6, l5⟩, g6⟩)
     · refine mkG okSa zSa HN.out rfl HS0.out rfl (fun w7 b7 o7 q7 g7 l7 => ⟨fun _ => g7, ?_⟩)
       clear q7
       refine late_all [6, 10] (by kernel_rfl) (by simp) (fun jj hjj => ?_)
       simp only [List.mem_cons, List.not_mem_nil, or_false] at hjj
       rcases hjj with rfl | rfl
       · refine mkG okRu zRu HN.out rfl g7 rfl (fun w8 b8 o8 q8 g8 l8 => ⟨fun _ => g8, ?_⟩)
         have o8x8 := o7.keep q8
         clear q8
         refine late_all [10] (by kernel_rfl) (by simp) (fun jj hjj => ?_)
         obtain rfl := one_of hjj
         refine mkH elB_ok false HN.out rfl g8 rfl (fun w9 b9 o9 q9 g9 l9 => ⟨fun _ => g9, ?_⟩)
         have o9x6 := o8.keep q9
         have o9x8 := o8x8.keep q9
         clear q9
         exact lateN _ _ (CONT (b8, b7, b9) w9 ⟨o9x6, o9x8, o9, ⟨l8, l7, l9⟩, g9⟩)
       · refine mkH elB_ok false HN.out rfl g7 rfl (fun w10 b10 o10 q10 g10 l10 => ⟨fun _ => g10, ?_⟩)
         have o10x8 := o7.keep q10
         clear q10
         refine late_all [6] (by kernel_rfl) (by simp) (fun jj hjj => ?_)
         obtain rfl := one_of hjj
         refine mkG okRu zRu HN.out rfl g10 rfl (fun w11 b11 o11 q11 g11 l11 => ⟨fun _ => g11, ?_⟩)
         have o11x10 := o10.keep q11
         have o11x8 := o10x8.keep q11
         clear q11
         exact lateN _ _ (CONT (b11, b7, b10) w11 ⟨o11, o11x8, o11x10, ⟨l11, l7, l10⟩, g11⟩)
     · refine mkH elB_ok false HN.out rfl HS0.out rfl (fun w12 b12 o12 q12 g12 l12 => ⟨fun _ => g12, ?_⟩)
       clear q12
       refine late_all [6, 8] (by kernel_rfl) (by simp) (fun jj hjj => ?_)
       simp only [List.mem_cons, List.not_mem_nil, or_false] at hjj
       rcases hjj with rfl | rfl
       · refine mkG okRu zRu HN.out rfl g12 rfl (fun w13 b13 o13 q13 g13 l13 => ⟨fun _ => g13, ?_⟩)
         have o13x10 := o12.keep q13
         clear q13
         refine late_all [8] (by kernel_rfl) (by simp) (fun jj hjj => ?_)
         obtain rfl := one_of hjj
         refine mkG okSa zSa HN.out rfl g13 rfl (fun w14 b14 o14 q14 g14 l14 => ⟨fun _ => g14, ?_⟩)
         have o14x6 := o13.keep q14
         have o14x10 := o13x10.keep q14
         clear q14
         exact lateN _ _ (CONT (b13, b14, b12) w14 ⟨o14x6, o14, o14x10, ⟨l13, l14, l12⟩, g14⟩)
       · refine mkG okSa zSa HN.out rfl g12 rfl (fun w15 b15 o15 q15 g15 l15 => ⟨fun _ => g15, ?_⟩)
         have o15x10 := o12.keep q15
         clear q15
         refine late_all [6] (by kernel_rfl) (by simp) (fun jj hjj => ?_)
         obtain rfl := one_of hjj
         refine mkG okRu zRu HN.out rfl g15 rfl (fun w16 b16 o16 q16 g16 l16 => ⟨fun _ => g16, ?_⟩)
         have o16x8 := o15.keep q16
         have o16x10 := o15x10.keep q16
         clear q16
         exact lateN _ _ (CONT (b16, b15, b12) w16 ⟨o16, o16x8, o16x10, ⟨l16, l15, l12⟩, g16⟩)
   · refine mkG okRu zRu HN.out rfl HS0.out rfl (fun w17 b17 o17 q17 g17 l17 => ⟨fun _ => g17, ?_⟩)
     clear q17
     refine late_all [1, 8, 10] (by kernel_rfl) (by simp) (fun jj hjj => ?_)
     simp only [List.mem_cons, List.not_mem_nil, or_false] at hjj
     rcases hjj with rfl | rfl | rfl
     · refine late_call (f := 114) rfl rfl (by kernel_rfl) (R := fun v w' => v = ptr hp 0 ∧ w17 = w') ((HH.out w17 g17).mono (fun e w' ⟨h1, h2⟩ => ⟨_, h1, rfl, h2.symm⟩)) (fun v w18 hv => ?_)
       obtain ⟨rfl, rfl⟩ := hv
       refine ⟨fun _ => g17, ?_⟩
       refine late_all [8, 10] (by kernel_rfl) (by simp) (fun jj hjj => ?_)
       simp only [List.mem_cons, List.not_mem_nil, or_false] at hjj
       rcases hjj with rfl | rfl
       · refine mkG okSa zSa HN.out rfl g17 rfl (fun w19 b19 o19 q19 g19 l19 => ⟨fun _ => g19, ?_⟩)
         have o19x6 := o17.keep q19
         clear q19
         refine late_all [10] (by kernel_rfl) (by simp) (fun jj hjj => ?_)
         obtain rfl := one_of hjj
         refine mkH elB_ok false HN.out rfl g19 rfl (fun w20 b20 o20 q20 g20 l20 => ⟨fun _ => g20, ?_⟩)
         have o20x8 := o19.keep q20
         have o20x6 := o19x6.keep q20
         clear q20
         exact lateN _ _ (CONT (b17, b19, b20) w20 ⟨o20x6, o20x8, o20, ⟨l17, l19, l20⟩, g20⟩)
       · refine mkH elB_ok false HN.out rfl g17 rfl (fun w21 b21 o21 q21 g21 l21 => ⟨fun _ => g21, ?_⟩)
         have o21x6 := o17.keep q21
         clear q21
         refine late_all [8] (by kernel_rfl) (by simp) (fun jj hjj => ?_)
         obtain rfl := one_of hjj
         refine mkG okSa zSa HN.out rfl g21 rfl (fun w22 b22 o22 q22 g22 l22 => ⟨fun _ => g22, ?_⟩)
         have o22x10 := o21.keep q22
         have o22x6 := o21x6.keep q22
         clear q22
         exact lateN _ _ (CONT (b17, b22, b21) w22 ⟨o22x6, o22, o22x10, ⟨l17, l22, l21⟩, g22⟩)
     · refine mkG okSa zSa HN.out rfl g17 rfl (fun w23 b23 o23 q23 g23 l23 => ⟨fun _ => g23, ?_⟩)
       have o23x6 := o17.keep q23
       clear q23
       refine late_all [1, 10] (by kernel_rfl) (by simp) (fun jj hjj => ?_)
       simp only [List.mem_cons, List.not_mem_nil, or_false] at hjj
       rcases hjj with rfl | rfl
       · refine late_call (f := 114) rfl rfl (by kernel_rfl) (R := fun v w' => v = ptr hp 0 ∧ w23 = w') ((HH.out w23 g23).mono (fun e w' ⟨h1, h2⟩ => ⟨_, h1, rfl, h2.symm⟩)) (fun v w24 hv => ?_)
         obtain ⟨rfl, rfl⟩ := hv
         refine ⟨fun _ => g23, ?_⟩
         refine late_all [10] (by kernel_rfl) (by simp) (fun jj hjj => ?_)
         obtain rfl := one_of hjj
         refine mkH elB_ok false HN.out rfl g23 rfl (fun w25 b25 o25 q25 g25 l25 => ⟨fun _ => g25, ?_⟩)
         have o25x8 := o23.keep q25
         have o25x6 := o23x6.keep q25
         clear q25
         exact lateN _ _ (CONT (b17, b23, b25) w25 ⟨o25x6, o25x8, o25, ⟨l17, l23, l25⟩, g25⟩)
       · refine mkH elB_ok false HN.out rfl g23 rfl (fun w26 b26 o26 q26 g26 l26 => ⟨fun _ => g26, ?_⟩)
         have o26x8 := o23.keep q26
         have o26x6 := o23x6.keep q26
         clear q26
         refine late_all [1] (by kernel_rfl) (by simp) (fun jj hjj => ?_)
         obtain rfl := one_of hjj
         refine late_call (f := 114) rfl rfl (by kernel_rfl) (R := fun v w' => v = ptr hp 0 ∧ w26 = w') ((HH.out w26 g26).mono (fun e w' ⟨h1, h2⟩ => ⟨_, h1, rfl, h2.symm⟩)) (fun v w27 hv => ?_)
         obtain ⟨rfl, rfl⟩ := hv
         refine ⟨fun _ => g26, ?_⟩
         exact lateN _ _ (CONT (b17, b23, b26) w26 ⟨o26x6, o26x8, o26, ⟨l17, l23, l26⟩, g26⟩)
     · refine mkH elB_ok false HN.out rfl g17 rfl (fun w28 b28 o28 q28 g28 l28 => ⟨fun _ => g28, ?_⟩)
       have o28x6 := o17.keep q28
       clear q28
       refine late_all [1, 8] (by kernel_rfl) (by simp) (fun jj hjj => ?_)
       simp only [List.mem_cons, List.not_mem_nil, or_false] at hjj
       rcases hjj with rfl | rfl
       · refine late_call (f := 114) rfl rfl (by kernel_rfl) (R := fun v w' => v = ptr hp 0 ∧ w28 = w') ((HH.out w28 g28).mono (fun e w' ⟨h1, h2⟩ => ⟨_, h1, rfl, h2.symm⟩)) (fun v w29 hv => ?_)
         obtain ⟨rfl, rfl⟩ := hv
         refine ⟨fun _ => g28, ?_⟩
         refine late_all [8] (by kernel_rfl) (by simp) (fun jj hjj => ?_)
         obtain rfl := one_of hjj
         refine mkG okSa zSa HN.out rfl g28 rfl (fun w30 b30 o30 q30 g30 l30 => ⟨fun _ => g30, ?_⟩)
         have o30x10 := o28.keep q30
         have o30x6 := o28x6.keep q30
         clear q30
         exact lateN _ _ (CONT (b17, b30, b28) w30 ⟨o30x6, o30, o30x10, ⟨l17, l30, l28⟩, g30⟩)
       · refine mkG okSa zSa HN.out rfl g28 rfl (fun w31 b31 o31 q31 g31 l31 => ⟨fun _ => g31, ?_⟩)
         have o31x10 := o28.keep q31
         have o31x6 := o28x6.keep q31
         clear q31
         refine late_all [1] (by kernel_rfl) (by simp) (fun jj hjj => ?_)
         obtain rfl := one_of hjj
         refine late_call (f := 114) rfl rfl (by kernel_rfl) (R := fun v w' => v = ptr hp 0 ∧ w31 = w') ((HH.out w31 g31).mono (fun e w' ⟨h1, h2⟩ => ⟨_, h1, rfl, h2.symm⟩)) (fun v w32 hv => ?_)
         obtain ⟨rfl, rfl⟩ := hv
         refine ⟨fun _ => g31, ?_⟩
         exact lateN _ _ (CONT (b17, b31, b28) w31 ⟨o31x6, o31, o31x10, ⟨l17, l31, l28⟩, g31⟩)
   · refine mkG okSa zSa HN.out rfl HS0.out rfl (fun w33 b33 o33 q33 g33 l33 => ⟨fun _ => g33, ?_⟩)
     clear q33
     refine late_all [1, 6, 10] (by kernel_rfl) (by simp) (fun jj hjj => ?_)
     simp only [List.mem_cons, List.not_mem_nil, or_false] at hjj
     rcases hjj with rfl | rfl | rfl
     · refine late_call (f := 114) rfl rfl (by kernel_rfl) (R := fun v w' => v = ptr hp 0 ∧ w33 = w') ((HH.out w33 g33).mono (fun e w' ⟨h1, h2⟩ => ⟨_, h1, rfl, h2.symm⟩)) (fun v w34 hv => ?_)
       obtain ⟨rfl, rfl⟩ := hv
       refine ⟨fun _ => g33, ?_⟩
       refine late_all [6, 10] (by kernel_rfl) (by simp) (fun jj hjj => ?_)
       simp only [List.mem_cons, List.not_mem_nil, or_false] at hjj
       rcases hjj with rfl | rfl
       · refine mkG okRu zRu HN.out rfl g33 rfl (fun w35 b35 o35 q35 g35 l35 => ⟨fun _ => g35, ?_⟩)
         have o35x8 := o33.keep q35
         clear q35
         refine late_all [10] (by kernel_rfl) (by simp) (fun jj hjj => ?_)
         obtain rfl := one_of hjj
         refine mkH elB_ok false HN.out rfl g35 rfl (fun w36 b36 o36 q36 g36 l36 => ⟨fun _ => g36, ?_⟩)
         have o36x6 := o35.keep q36
         have o36x8 := o35x8.keep q36
         clear q36
         exact lateN _ _ (CONT (b35, b33, b36) w36 ⟨o36x6, o36x8, o36, ⟨l35, l33, l36⟩, g36⟩)
       · refine mkH elB_ok false HN.out rfl g33 rfl (fun w37 b37 o37 q37 g37 l37 => ⟨fun _ => g37, ?_⟩)
         have o37x8 := o33.keep q37
         clear q37
         refine late_all [6] (by kernel_rfl) (by simp) (fun jj hjj => ?_)
         obtain rfl := one_of hjj
         refine mkG okRu zRu HN.out rfl g37 rfl (fun w38 b38 o38 q38 g38 l38 => ⟨fun _ => g38, ?_⟩)
         have o38x10 := o37.keep q38
         have o38x8 := o37x8.keep q38
         clear q38
         exact lateN _ _ (CONT (b38, b33, b37) w38 ⟨o38, o38x8, o38x10, ⟨l38, l33, l37⟩, g38⟩)
     · refine mkG okRu zRu HN.out rfl g33 rfl (fun w39 b39 o39 q39 g39 l39 => ⟨fun _ => g39, ?_⟩)
       have o39x8 := o33.keep q39
       clear q39
       refine late_all [1, 10] (by kernel_rfl) (by simp) (fun jj hjj => ?_)
       simp only [List.mem_cons, List.not_mem_nil, or_false] at hjj
       rcases hjj with rfl | rfl
       · refine late_call (f := 114) rfl rfl (by kernel_rfl) (R := fun v w' => v = ptr hp 0 ∧ w39 = w') ((HH.out w39 g39).mono (fun e w' ⟨h1, h2⟩ => ⟨_, h1, rfl, h2.symm⟩)) (fun v w40 hv => ?_)
         obtain ⟨rfl, rfl⟩ := hv
         refine ⟨fun _ => g39, ?_⟩
         refine late_all [10] (by kernel_rfl) (by simp) (fun jj hjj => ?_)
         obtain rfl := one_of hjj
         refine mkH elB_ok false HN.out rfl g39 rfl (fun w41 b41 o41 q41 g41 l41 => ⟨fun _ => g41, ?_⟩)
         have o41x6 := o39.keep q41
         have o41x8 := o39x8.keep q41
         clear q41
         exact lateN _ _ (CONT (b39, b33, b41) w41 ⟨o41x6, o41x8, o41, ⟨l39, l33, l41⟩, g41⟩)
       · refine mkH elB_ok false HN.out rfl g39 rfl (fun w42 b42 o42 q42 g42 l42 => ⟨fun _ => g42, ?_⟩)
         have o42x6 := o39.keep q42
         have o42x8 := o39x8.keep q42
         clear q42
         refine late_all [1] (by kernel_rfl) (by simp) (fun jj hjj => ?_)
         obtain rfl := one_of hjj
         refine late_call (f := 114) rfl rfl (by kernel_rfl) (R := fun v w' => v = ptr hp 0 ∧ w42 = w') ((HH.out w42 g42).mono (fun e w' ⟨h1, h2⟩ => ⟨_, h1, rfl, h2.symm⟩)) (fun v w43 hv => ?_)
         obtain ⟨rfl, rfl⟩ := hv
         refine ⟨fun _ => g42, ?_⟩
         exact lateN _ _ (CONT (b39, b33, b42) w42 ⟨o42x6, o42x8, o42, ⟨l39, l33, l42⟩, g42⟩)
     · refine mkH elB_ok false HN.out rfl g33 rfl (fun w44 b44 o44 q44 g44 l44 => ⟨fun _ => g44, ?_⟩)
       have o44x8 := o33.keep q44
       clear q44
       refine late_all [1, 6] (by kernel_rfl) (by simp) (fun jj hjj => ?_)
       simp only [List.mem_cons, List.not_mem_nil, or_false] at hjj
       rcases hjj with rfl | rfl
       · refine late_call (f := 114) rfl rfl (by kernel_rfl) (R := fun v w' => v = ptr hp 0 ∧ w44 = w') ((HH.out w44 g44).mono (fun e w' ⟨h1, h2⟩ => ⟨_, h1, rfl, h2.symm⟩)) (fun v w45 hv => ?_)
         obtain ⟨rfl, rfl⟩ := hv
         refine ⟨fun _ => g44, ?_⟩
         refine late_all [6] (by kernel_rfl) (by simp) (fun jj hjj => ?_)
         obtain rfl := one_of hjj
         refine mkG okRu zRu HN.out rfl g44 rfl (fun w46 b46 o46 q46 g46 l46 => ⟨fun _ => g46, ?_⟩)
         have o46x10 := o44.keep q46
         have o46x8 := o44x8.keep q46
         clear q46
         exact lateN _ _ (CONT (b46, b33, b44) w46 ⟨o46, o46x8, o46x10, ⟨l46, l33, l44⟩, g46⟩)
       · refine mkG okRu zRu HN.out rfl g44 rfl (fun w47 b47 o47 q47 g47 l47 => ⟨fun _ => g47, ?_⟩)
         have o47x10 := o44.keep q47
         have o47x8 := o44x8.keep q47
         clear q47
         refine late_all [1] (by kernel_rfl) (by simp) (fun jj hjj => ?_)
         obtain rfl := one_of hjj
         refine late_call (f := 114) rfl rfl (by kernel_rfl) (R := fun v w' => v = ptr hp 0 ∧ w47 = w') ((HH.out w47 g47).mono (fun e w' ⟨h1, h2⟩ => ⟨_, h1, rfl, h2.symm⟩)) (fun v w48 hv => ?_)
         obtain ⟨rfl, rfl⟩ := hv
         refine ⟨fun _ => g47, ?_⟩
         exact lateN _ _ (CONT (b47, b33, b44) w47 ⟨o47, o47x8, o47x10, ⟨l47, l33, l44⟩, g47⟩)
   · refine mkH elB_ok false HN.out rfl HS0.out rfl (fun w49 b49 o49 q49 g49 l49 => ⟨fun _ => g49, ?_⟩)
     clear q49
     refine late_all [1, 6, 8] (by kernel_rfl) (by simp) (fun jj hjj => ?_)
     simp only [List.mem_cons, List.not_mem_nil, or_false] at hjj
     rcases hjj with rfl | rfl | rfl
     · refine late_call (f := 114) rfl rfl (by kernel_rfl) (R := fun v w' => v = ptr hp 0 ∧ w49 = w') ((HH.out w49 g49).mono (fun e w' ⟨h1, h2⟩ => ⟨_, h1, rfl, h2.symm⟩)) (fun v w50 hv => ?_)
       obtain ⟨rfl, rfl⟩ := hv
       refine ⟨fun _ => g49, ?_⟩
       refine late_all [6, 8] (by kernel_rfl) (by simp) (fun jj hjj => ?_)
       simp only [List.mem_cons, List.not_mem_nil, or_false] at hjj
       rcases hjj with rfl | rfl
       · refine mkG okRu zRu HN.out rfl g49 rfl (fun w51 b51 o51 q51 g51 l51 => ⟨fun _ => g51, ?_⟩)
         have o51x10 := o49.keep q51
         clear q51
         refine late_all [8] (by kernel_rfl) (by simp) (fun jj hjj => ?_)
         obtain rfl := one_of hjj
         refine mkG okSa zSa HN.out rfl g51 rfl (fun w52 b52 o52 q52 g52 l52 => ⟨fun _ => g52, ?_⟩)
         have o52x6 := o51.keep q52
         have o52x10 := o51x10.keep q52
         clear q52
         exact lateN _ _ (CONT (b51, b52, b49) w52 ⟨o52x6, o52, o52x10, ⟨l51, l52, l49⟩, g52⟩)
       · refine mkG okSa zSa HN.out rfl g49 rfl (fun w53 b53 o53 q53 g53 l53 => ⟨fun _ => g53, ?_⟩)
         have o53x10 := o49.keep q53
         clear q53
         refine late_all [6] (by kernel_rfl) (by simp) (fun jj hjj => ?_)
         obtain rfl := one_of hjj
         refine mkG okRu zRu HN.out rfl g53 rfl (fun w54 b54 o54 q54 g54 l54 => ⟨fun _ => g54, ?_⟩)
         have o54x8 := o53.keep q54
         have o54x10 := o53x10.keep q54
         clear q54
         exact lateN _ _ (CONT (b54, b53, b49) w54 ⟨o54, o54x8, o54x10, ⟨l54, l53, l49⟩, g54⟩)
     · refine mkG okRu zRu HN.out rfl g49 rfl (fun w55 b55 o55 q55 g55 l55 => ⟨fun _ => g55, ?_⟩)
       have o55x10 := o49.keep q55
       clear q55
       refine late_all [1, 8] (by kernel_rfl) (by simp) (fun jj hjj => ?_)
       simp only [List.mem_cons, List.not_mem_nil, or_false] at hjj
       rcases hjj with rfl | rfl
       · refine late_call (f := 114) rfl rfl (by kernel_rfl) (R := fun v w' => v = ptr hp 0 ∧ w55 = w') ((HH.out w55 g55).mono (fun e w' ⟨h1, h2⟩ => ⟨_, h1, rfl, h2.symm⟩)) (fun v w56 hv => ?_)
         obtain ⟨rfl, rfl⟩ := hv
         refine ⟨fun _ => g55, ?_⟩
         refine late_all [8] (by kernel_rfl) (by simp) (fun jj hjj => ?_)
         obtain rfl := one_of hjj
         refine mkG okSa zSa HN.out rfl g55 rfl (fun w57 b57 o57 q57 g57 l57 => ⟨fun _ => g57, ?_⟩)
         have o57x6 := o55.keep q57
         have o57x10 := o55x10.keep q57
         clear q57
         exact lateN _ _ (CONT (b55, b57, b49) w57 ⟨o57x6, o57, o57x10, ⟨l55, l57, l49⟩, g57⟩)
       · refine mkG okSa zSa HN.out rfl g55 rfl (fun w58 b58 o58 q58 g58 l58 => ⟨fun _ => g58, ?_⟩)
         have o58x6 := o55.keep q58
         have o58x10 := o55x10.keep q58
         clear q58
         refine late_all [1] (by kernel_rfl) (by simp) (fun jj hjj => ?_)
         obtain rfl := one_of hjj
         refine late_call (f := 114) rfl rfl (by kernel_rfl) (R := fun v w' => v = ptr hp 0 ∧ w58 = w') ((HH.out w58 g58).mono (fun e w' ⟨h1, h2⟩ => ⟨_, h1, rfl, h2.symm⟩)) (fun v w59 hv => ?_)
         obtain ⟨rfl, rfl⟩ := hv
         refine ⟨fun _ => g58, ?_⟩
         exact lateN _ _ (CONT (b55, b58, b49) w58 ⟨o58x6, o58, o58x10, ⟨l55, l58, l49⟩, g58⟩)
     · refine mkG okSa zSa HN.out rfl g49 rfl (fun w60 b60 o60 q60 g60 l60 => ⟨fun _ => g60, ?_⟩)
       have o60x10 := o49.keep q60
       clear q60
       refine late_all [1, 6] (by kernel_rfl) (by simp) (fun jj hjj => ?_)
       simp only [List.mem_cons, List.not_mem_nil, or_false] at hjj
       rcases hjj with rfl | rfl
       · refine late_call (f := 114) rfl rfl (by kernel_rfl) (R := fun v w' => v = ptr hp 0 ∧ w60 = w') ((HH.out w60 g60).mono (fun e w' ⟨h1, h2⟩ => ⟨_, h1, rfl, h2.symm⟩)) (fun v w61 hv => ?_)
         obtain ⟨rfl, rfl⟩ := hv
         refine ⟨fun _ => g60, ?_⟩
         refine late_all [6] (by kernel_rfl) (by simp) (fun jj hjj => ?_)
         obtain rfl := one_of hjj
         refine mkG okRu zRu HN.out rfl g60 rfl (fun w62 b62 o62 q62 g62 l62 => ⟨fun _ => g62, ?_⟩)
         have o62x8 := o60.keep q62
         have o62x10 := o60x10.keep q62
         clear q62
         exact lateN _ _ (CONT (b62, b60, b49) w62 ⟨o62, o62x8, o62x10, ⟨l62, l60, l49⟩, g62⟩)
       · refine mkG okRu zRu HN.out rfl g60 rfl (fun w63 b63 o63 q63 g63 l63 => ⟨fun _ => g63, ?_⟩)
         have o63x8 := o60.keep q63
         have o63x10 := o60x10.keep q63
         clear q63
         refine late_all [1] (by kernel_rfl) (by simp) (fun jj hjj => ?_)
         obtain rfl := one_of hjj
         refine late_call (f := 114) rfl rfl (by kernel_rfl) (R := fun v w' => v = ptr hp 0 ∧ w63 = w') ((HH.out w63 g63).mono (fun e w' ⟨h1, h2⟩ => ⟨_, h1, rfl, h2.symm⟩)) (fun v w64 hv => ?_)
         obtain ⟨rfl, rfl⟩ := hv
         refine ⟨fun _ => g63, ?_⟩
         exact lateN _ _ (CONT (b63, b60, b49) w63 ⟨o63, o63x8, o63x10, ⟨l63, l60, l49⟩, g63⟩)
end Go.Proofs.YtalgjpmaafooeaaGreatDoor
/- A method's states. -/
namespace Go.Proofs.YtalgjpmaafooeaaGreatDoor
open Go.ChangeShapes Go.WideShapes Go.ChangeAt Go.RowKit
open H (ix NewV)
theorem bx5 {w : World} {q : Nat} {a0 a1 a2 a3 a4 : Value} {t : TypeId} (h : w.heap[q]? = some (.cells #[a0, a1, a2, a3, a4] t (0, 0))) : w.cell? ⟨q, 0, none⟩ = some a0 ∧ w.cell? ⟨q, 1, none⟩ = some a1 ∧ w.cell? ⟨q, 2, none⟩ = some a2 ∧ w.cell? ⟨q, 3, none⟩ = some a3 ∧ w.cell? ⟨q, 4, none⟩ = some a4 :=
 ⟨cell_at h, cell_at h, cell_at h, cell_at h, cell_at h⟩
theorem bx8 {w : World} {q : Nat} {a0 a1 a2 a3 a4 a5 a6 a7 : Value} {t : TypeId} (h : w.heap[q]? = some (.cells #[a0, a1, a2, a3, a4, a5, a6, a7] t (0, 0))) : w.cell? ⟨q, 0, none⟩ = some a0 ∧ w.cell? ⟨q, 1, none⟩ = some a1 ∧ w.cell? ⟨q, 2, none⟩ = some a2 ∧ w.cell? ⟨q, 3, none⟩ = some a3 ∧ w.cell? ⟨q, 4, none⟩ = some a4 ∧ w.cell? ⟨q, 5, none⟩ = some a5 ∧ w.cell? ⟨q, 6, none⟩ = some a6 ∧ w.cell? ⟨q, 7, none⟩ = some a7 :=
 ⟨cell_at h, cell_at h, cell_at h, cell_at h, cell_at h, cell_at h, cell_at h, cell_at h⟩
def beg (kn : ByteArray) (ts : List Ty) (n : Nat) : Ps := (⟨true, ⟨4, kn⟩ :: ts, []⟩ :: List.replicate (n - 1) ⟨false, [], []⟩, true :: List.replicate (n - 1) false)
set_option maxRecDepth 100000 in
set_option maxHeartbeats 4000000 in
theorem statesOf_any (w : World) (p hp : Nat) (k : Ks) (m : Ms) (cd : List (Int × Int)) (hq : w.cell? ⟨p, 0, none⟩ = some (.pointer (some ⟨hp, 0, none⟩))) (hcd : SlG elIn w (.slice m.c.a m.c.n m.c.c) cd) (h0 : 0 < cd.length) (h2 : cd.length ≤ 200)
 (hops : ∀ x ∈ cd, x.1 ∈ plainOps ∨ x.1 = 33 ∧ m.ret.k = 0 ∨ x.1 = 25 ∧ AtMain w (.slice k.p.a k.p.n k.p.c) x.2) (hpn : m.p.n = 0) (hp0 : m.p.a = none → m.p.c = 0) (ts : List Ty) (hlo : Low m.lo ts) (hh : m.h.n = 0) (tr : Tr w) (fo : FitQ w (.pointer (some ⟨hp, 0, none⟩)))
 (fuel : Nat) (res : Int × Ps) (hres : settleP m.st cd (cd.map fun x => ruleP x.1) fuel 0 (beg k.name ts cd.length) = some res) :
 Calls Tryz.prog 56 #[.pointer (some ⟨p, 0, none⟩), ksV k, msV m] w fun e w' => ∃ S C c v, e = .returned (.tuple #[v, .int .i64 res.1]) ∧ (res.1 = 0 → v = .slice (some ⟨S, 0, none⟩) cd.length cd.length ∧ Fl w' S C c cd.length res.2.1 res.2.2 ∧ w.heap.size ≤ S) ∧ (res.1 ≠ 0 → v = .slice none 0 0) ∧ Fr no w w' := by
 obtain ⟨kn, ks, ⟨kpa, kpn, kpc⟩, ⟨kfa, kfn, kfc⟩, ⟨kma, kmn, kmc⟩⟩ := k
 obtain ⟨mn, ⟨pa, pn, pc⟩, ⟨rk, rc⟩, lo, st, ⟨ca, cn', cc⟩, ⟨ha, hn, hc⟩⟩ := m
 generalize hW1 : (w.alloc (.cells #[.string kn, .string ks, .slice kpa kpn kpc, .slice kfa kfn kfc, .slice kma kmn kmc] 51)).alloc (.cells #[.string mn, .slice pa pn pc, .int .i64 rk, .string rc, .int .i64 lo, .int .i64 st, .slice ca cn' cc, .slice ha hn hc] 47) = W1
 have F1 : Fr no w W1 := by rw [← hW1]; exact ((Fr.refl no w).alloc _ _).new ((Fr.refl no _).alloc _ _) (fun _ _ f => f)
 have E0 : W1.heap[w.heap.size]? = some (.cells #[.string kn, .string ks, .slice kpa kpn kpc, .slice kfa kfn kfc, .slice kma kmn kmc] 51 (0, 0)) := by rw [← hW1]; exact ((Fr.refl no _).alloc _ _).heap (heap_alloc_new w _) (fun f => f)
 have E1 : W1.heap[w.heap.size + 1]? = some (.cells #[.string mn, .slice pa pn pc, .int .i64 rk, .string rc, .int .i64 lo, .int .i64 st, .slice ca cn' cc, .slice ha hn hc] 47 (0, 0)) := by rw [← hW1, ← size_alloc w (.cells #[.string kn, .string ks, .slice kpa kpn kpc, .slice kfa kfn kfc, .slice kma kmn kmc] 51)]; exact heap_alloc_new _ _
 obtain ⟨a0, a1, a2, a3, a4⟩ := bx5 E0
 obtain ⟨b0, b1, b2, b3, b4, b5, b6, b7⟩ := bx8 E1
 clear E0 E1
 have NF := newFlow_any W1 p hp ⟨kn, ks, ⟨kpa, kpn, kpc⟩, ⟨kfa, kfn, kfc⟩, ⟨kma, kmn, kmc⟩⟩ ⟨mn, ⟨pa, pn, pc⟩, ⟨rk, rc⟩, lo, st, ⟨ca, cn', cc⟩, ⟨ha, hn, hc⟩⟩ cd (F1.cell hq (fun f => f)) (hcd.kept F1) h0 h2 (fun x hx => (hops x hx).imp id (Or.imp id (fun q => ⟨q.1, q.2.keep F1⟩))) hpn hp0 ts hlo hh (tr.kept F1) (fo.keep F1)
 have HRES : Hid _ := hres
 have HF1 : Hid _ := F1
 clear hq hcd hops hpn hp0 hlo hh tr hres F1 fo
 obtain ⟨err, ps⟩ := res
 unfold ksV msV at *
 simp only at NF HRES ⊢
 go_enter Tryz.func56, Tryz.ntmps56
 go_wp2_with fail
 refine NF.mono ?_
 rintro e w2 ⟨f, S, C, c, rfl, EV, FL, hcw, hf, hl, F2⟩
 have SE := settle_any w2 f S C c st cd _ _ EV FL hcw hf fuel _ HRES.out
 have HEV : Hid _ := EV
 have HX : Hid _ := hl
 have HF2 : Hid _ := F2
 clear EV FL NF hl F2 a0 a1 a2 a3 a4 b0 b1 b2 b3 b4 b5 b6 b7
 go_wp2_with fail
 refine SE.mono ?_
 rintro e w3 ⟨rfl, fl, F3⟩
 have st4 := (HEV.out w3 F3).states
 have HFN : Hid (Fr no w w3) := by
  have hx := HX.out
  have hs := HF1.out.size
  refine (HF1.out.new HF2.out (fun _ _ f => f)).new F3 (fun i hi t => ?_)
  rcases t with e | e | e <;> omega
 have HFL : Hid _ := fl
 clear SE F3 fl
 generalize hcl : cd.length = n at *
 by_cases he : err = 0
 · subst he
   go_wp2_with fail
   go_ret2
   exact ⟨S, C, c, _, rfl, ⟨rfl, HFL.out trivial, by have h1 := HX.out; have h2 := HF1.out.size; omega⟩, HFN.out⟩
 · go_wp2_with fail
   go_ret2
   exact ⟨S, C, c, _, rfl, fun h => absurd h he, fun _ => rfl, HFN.out⟩
end Go.Proofs.YtalgjpmaafooeaaGreatDoor
