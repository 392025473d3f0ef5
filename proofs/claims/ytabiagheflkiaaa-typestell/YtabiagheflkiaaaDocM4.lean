/- What two types are both: the document's answer, the first a class. -/
import Derived.Test.YtabiagheflkiaaaDoc
namespace Go.Proofs.Ytabiagheflkiaaa
open Go.ChangeShapes Go.WideShapes Go.ChangeAt Go.RowKit

set_option maxHeartbeats 2000000 in
theorem docMerge_4 (w : World) (p : Nat) (N S : List ByteArray) (A : List Nat) (h : RC w p N S A) (ka kb : Int) (ca cb : ByteArray) (hs : ka = 4) :
    Calls Try.prog 26 #[.pointer (some ⟨p, 0, none⟩), .agg #[.int .i64 ka, .string ca], .agg #[.int .i64 kb, .string cb]] w fun e w' => e = .returned (tyV (merge N A ⟨ka, ca⟩ ⟨kb, cb⟩)) ∧ Fr no w w' := by
  have F3 : Hid (Fr no w (((w.alloc (.cells #[.int .i64 ka, .string ca] 24)).alloc (.cells #[.int .i64 kb, .string cb] 24)).alloc (.cells #[.int .i64 0, .string ByteArray.empty] 24))) := (((Fr.refl no w).alloc _ _).alloc _ _).alloc _ _
  have HC : Hid (RC w p N S A) := h
  have KA : Hid ((((w.alloc (.cells #[.int .i64 ka, .string ca] 24)).alloc (.cells #[.int .i64 kb, .string cb] 24)).alloc (.cells #[.int .i64 0, .string ByteArray.empty] 24)).heap[w.heap.size]? = some (.cells #[.int .i64 ka, .string ca] 24 (0, 0))) := first3 w _ _ _ _ _ _
  have KB : Hid ((((w.alloc (.cells #[.int .i64 ka, .string ca] 24)).alloc (.cells #[.int .i64 kb, .string cb] 24)).alloc (.cells #[.int .i64 0, .string ByteArray.empty] 24)).heap[w.heap.size + 1]? = some (.cells #[.int .i64 kb, .string cb] 24 (0, 0))) := second3 w _ _ _ _ _ _
  have KZ : Hid ((((w.alloc (.cells #[.int .i64 ka, .string ca] 24)).alloc (.cells #[.int .i64 kb, .string cb] 24)).alloc (.cells #[.int .i64 0, .string ByteArray.empty] 24)).heap[w.heap.size + 1 + 1]? = some (.cells #[.int .i64 0, .string ByteArray.empty] 24 (0, 0))) := third w _ _ _
  have hq := ty_eq ka kb ca cb
  have RDY : Hid (∀ wq, Fr no (((w.alloc (.cells #[.int .i64 ka, .string ca] 24)).alloc (.cells #[.int .i64 kb, .string cb] 24)).alloc (.cells #[.int .i64 0, .string ByteArray.empty] 24)) wq → Hid (Fr no w wq) ∧ Hid (RC wq p N S A) ∧ Hid (wq.heap[w.heap.size + 1 + 1]? = some (.cells #[.int .i64 0, .string ByteArray.empty] 24 (0, 0))) ∧ (wq.cell? ⟨w.heap.size, 0, none⟩ = some (.int .i64 ka) ∧ wq.cell? ⟨w.heap.size, 1, none⟩ = some (.string ca)) ∧ (wq.cell? ⟨w.heap.size + 1, 0, none⟩ = some (.int .i64 kb) ∧ wq.cell? ⟨w.heap.size + 1, 1, none⟩ = some (.string cb)) ∧
      (wq.cell? ⟨w.heap.size + 1 + 1, 0, none⟩ = some (.int .i64 0) ∧ wq.cell? ⟨w.heap.size + 1 + 1, 1, none⟩ = some (.string ByteArray.empty)) ∧ wq.frozen? ⟨w.heap.size + 1 + 1, 0, none⟩ = false ∧ wq.frozen? ⟨w.heap.size + 1 + 1, 1, none⟩ = false) := fun wq f => by
    have k1 := two_cells (f.heap KA.out (fun f => f))
    have k2 := two_cells (f.heap KB.out (fun f => f))
    have k3 := two_cells (f.heap KZ.out (fun f => f))
    exact ⟨F3.out.and f, HC.out.keep (F3.out.and f), f.heap KZ.out (fun f => f), ⟨k1.1, k1.2.1⟩, ⟨k2.1, k2.2.1⟩, ⟨k3.1, k3.2.1⟩, k3.2.2.1, k3.2.2.2⟩
  have FIN : Hid (∀ wq u v, Fr no w wq → Fr no w ((wq.setCell ⟨w.heap.size + 1 + 1, 0, none⟩ u).setCell ⟨w.heap.size + 1 + 1, 1, none⟩ v)) := fun wq u v f => (f.setCell (p := ⟨w.heap.size + 1 + 1, 0, none⟩) (fun h => by simp at h; omega) _).setCell (p := ⟨w.heap.size + 1 + 1, 1, none⟩) (fun h => by simp at h; omega) _
  clear h
  have m3 : (ka == 3) = false := by simp; omega
  have m4 : (ka == 4) = true := by simp; omega
  have m5 : (ka == 5) = false := by simp; omega
  by_cases ht : kb = 3
  · have n3 : (kb == 3) = true := by simp; omega
    have n4 : (kb == 4) = false := by simp; omega
    have n5 : (kb == 5) = false := by simp; omega
    have E : ¬ (ka = kb ∧ ca = cb) := fun h => by omega
    rw [decide_eq_false E] at hq
    have HE : Hid (merge N A ⟨ka, ca⟩ ⟨kb, cb⟩ = ⟨6, ByteArray.empty⟩) := merge_t E (by omega) (by omega) (fun h => by omega)
    (try clear E); (try clear hs); (try clear ht); (try clear u3); (try clear u4); (try clear u5)
    go_enter Try.func26, Try.ntmps26
    go_wp2_with fail
    go_quiet (fail)
    generalize hwq : World.drewN _ nq = wq
    obtain ⟨FQ, RQ, ZQ, ⟨a0, a1⟩, ⟨b0, b1⟩, ⟨z0, z1⟩, y0, y1⟩ := RDY.out wq (by rw [← hwq]; exact (Fr.refl no _).drewN' nq)
    clear hwq RDY KA KB KZ F3
    go_wp2_with fail
    refine bodyPost_ret (results_26 _ (w.heap.size + 1 + 1) (.int .i64 6) (.string ByteArray.empty) (two_set ZQ.out) _ rfl) rfl ?_
    rw [HE.out]
    exact ⟨rfl, FIN.out _ _ _ FQ.out⟩
  have u3 : kb ≠ 3 := ht
  clear ht
  by_cases ht : kb = 4
  · have n3 : (kb == 3) = false := by simp; omega
    have n4 : (kb == 4) = true := by simp; omega
    have n5 : (kb == 5) = false := by simp; omega
    by_cases E : ka = kb ∧ ca = cb
    · have HE : Hid (merge N A ⟨ka, ca⟩ ⟨kb, cb⟩ = ⟨ka, ca⟩) := merge_eq E
      rw [decide_eq_true E] at hq
      (try clear E); (try clear hs); (try clear ht); (try clear u3); (try clear u4); (try clear u5)
      go_enter Try.func26, Try.ntmps26
      go_wp2_with fail
      go_quiet (fail)
      generalize hwq : World.drewN _ nq = wq
      obtain ⟨FQ, RQ, ZQ, ⟨a0, a1⟩, ⟨b0, b1⟩, ⟨z0, z1⟩, y0, y1⟩ := RDY.out wq (by rw [← hwq]; exact (Fr.refl no _).drewN' nq)
      clear hwq RDY KA KB KZ F3
      go_wp2_with fail
      refine bodyPost_ret (results_26 _ (w.heap.size + 1 + 1) (.int .i64 ka) (.string ca) (two_set ZQ.out) _ rfl) rfl ?_
      rw [HE.out]
      exact ⟨rfl, FIN.out _ _ _ FQ.out⟩
    rw [decide_eq_false E] at hq
    cases x1 : (ix ca N).isSome with
    | false =>
      have HE : Hid (merge N A ⟨ka, ca⟩ ⟨kb, cb⟩ = ⟨6, ByteArray.empty⟩) := merge_t E (by omega) (by omega) (fun h => by rw [x1] at h; simp at h)
      (try clear E); (try clear hs); (try clear ht); (try clear u3); (try clear u4); (try clear u5)
      go_enter Try.func26, Try.ntmps26
      go_wp2_with fail
      go_quiet (fail)
      generalize hwq : World.drewN _ nq = wq
      obtain ⟨FQ, RQ, ZQ, ⟨a0, a1⟩, ⟨b0, b1⟩, ⟨z0, z1⟩, y0, y1⟩ := RDY.out wq (by rw [← hwq]; exact (Fr.refl no _).drewN' nq)
      clear hwq RDY KA KB KZ F3
      go_wp2_with fail
      have P1 := at_any wq p N S RQ.out.rb ca
      have e1 : decide (0 ≤ plc N ca) = false := by rw [plc_ge, x1]
      generalize plc N ca = pa at *
      refine P1.mono ?_
      rintro e w1 ⟨rfl, rfl⟩
      go_wp2_with fail
      refine bodyPost_ret (results_26 _ (w.heap.size + 1 + 1) (.int .i64 6) (.string ByteArray.empty) (two_set ZQ.out) _ rfl) rfl ?_
      rw [HE.out]
      exact ⟨rfl, FIN.out _ _ _ FQ.out⟩
    | true =>
      cases x2 : (ix cb N).isSome with
      | false =>
        have HE : Hid (merge N A ⟨ka, ca⟩ ⟨kb, cb⟩ = ⟨6, ByteArray.empty⟩) := merge_t E (by omega) (by omega) (fun h => by rw [x2] at h; simp at h)
        (try clear E); (try clear hs); (try clear ht); (try clear u3); (try clear u4); (try clear u5)
        go_enter Try.func26, Try.ntmps26
        go_wp2_with fail
        go_quiet (fail)
        generalize hwq : World.drewN _ nq = wq
        obtain ⟨FQ, RQ, ZQ, ⟨a0, a1⟩, ⟨b0, b1⟩, ⟨z0, z1⟩, y0, y1⟩ := RDY.out wq (by rw [← hwq]; exact (Fr.refl no _).drewN' nq)
        clear hwq RDY KA KB KZ F3
        go_wp2_with fail
        have P1 := at_any wq p N S RQ.out.rb ca
        have P2 := at_any wq p N S RQ.out.rb cb
        have e1 : decide (0 ≤ plc N ca) = true := by rw [plc_ge, x1]
        have e2 : decide (0 ≤ plc N cb) = false := by rw [plc_ge, x2]
        generalize plc N ca = pa at *
        generalize plc N cb = pb at *
        refine P1.mono ?_
        rintro e w1 ⟨rfl, rfl⟩
        go_wp2_with fail
        refine P2.mono ?_
        rintro e w1 ⟨rfl, rfl⟩
        go_wp2_with fail
        refine bodyPost_ret (results_26 _ (w.heap.size + 1 + 1) (.int .i64 6) (.string ByteArray.empty) (two_set ZQ.out) _ rfl) rfl ?_
        rw [HE.out]
        exact ⟨rfl, FIN.out _ _ _ FQ.out⟩
      | true =>
        have HE : Hid (merge N A ⟨ka, ca⟩ ⟨kb, cb⟩ = ⟨4, shared (anc N A ca) (anc N A cb)⟩) := merge_c E hs ht x1 x2
        (try clear E); (try clear hs); (try clear ht); (try clear u3); (try clear u4); (try clear u5)
        go_enter Try.func26, Try.ntmps26
        go_wp2_with fail
        go_quiet (fail)
        generalize hwq : World.drewN _ nq = wq
        obtain ⟨FQ, RQ, ZQ, ⟨a0, a1⟩, ⟨b0, b1⟩, ⟨z0, z1⟩, y0, y1⟩ := RDY.out wq (by rw [← hwq]; exact (Fr.refl no _).drewN' nq)
        clear hwq RDY KA KB KZ F3
        go_wp2_with fail
        have P1 := at_any wq p N S RQ.out.rb ca
        have P2 := at_any wq p N S RQ.out.rb cb
        have C := docCommon_any wq p N S A RQ.out ca cb
        have e1 : decide (0 ≤ plc N ca) = true := by rw [plc_ge, x1]
        have e2 : decide (0 ≤ plc N cb) = true := by rw [plc_ge, x2]
        generalize plc N ca = pa at *
        generalize plc N cb = pb at *
        generalize shared (anc N A ca) (anc N A cb) = sh at *
        refine P1.mono ?_
        rintro e w1 ⟨rfl, rfl⟩
        go_wp2_with fail
        refine P2.mono ?_
        rintro e w1 ⟨rfl, rfl⟩
        go_wp2_with fail
        refine C.mono ?_
        rintro e w2 ⟨rfl, f2⟩
        have Z2 := f2.heap ZQ.out (fun f => f)
        have F2 := FQ.out.and f2
        obtain ⟨d0, d1, d2, d3⟩ := two_cells Z2
        have ZZ : Hid (w2.heap[w.heap.size + 1 + 1]? = some (.cells #[.int .i64 0, .string ByteArray.empty] 24 (0, 0))) := Z2
        have FF : Hid (Fr no w w2) := F2
        clear f2 Z2 F2
        go_wp2_with fail
        refine bodyPost_ret (results_26 _ (w.heap.size + 1 + 1) (.int .i64 4) (.string sh) (two_set ZZ.out) _ rfl) rfl ?_
        rw [HE.out]
        exact ⟨rfl, FIN.out _ _ _ FF.out⟩
  have u4 : kb ≠ 4 := ht
  clear ht
  by_cases ht : kb = 5
  · have n3 : (kb == 3) = false := by simp; omega
    have n4 : (kb == 4) = false := by simp; omega
    have n5 : (kb == 5) = true := by simp; omega
    have E : ¬ (ka = kb ∧ ca = cb) := fun h => by omega
    rw [decide_eq_false E] at hq
    have HE : Hid (merge N A ⟨ka, ca⟩ ⟨kb, cb⟩ = ⟨ka, ca⟩) := merge_r E (by omega) (by omega) (by simp [isRef]; omega)
    (try clear E); (try clear hs); (try clear ht); (try clear u3); (try clear u4); (try clear u5)
    go_enter Try.func26, Try.ntmps26
    go_wp2_with fail
    go_quiet (fail)
    generalize hwq : World.drewN _ nq = wq
    obtain ⟨FQ, RQ, ZQ, ⟨a0, a1⟩, ⟨b0, b1⟩, ⟨z0, z1⟩, y0, y1⟩ := RDY.out wq (by rw [← hwq]; exact (Fr.refl no _).drewN' nq)
    clear hwq RDY KA KB KZ F3
    go_wp2_with fail
    refine bodyPost_ret (results_26 _ (w.heap.size + 1 + 1) (.int .i64 ka) (.string ca) (two_set ZQ.out) _ rfl) rfl ?_
    rw [HE.out]
    exact ⟨rfl, FIN.out _ _ _ FQ.out⟩
  have u5 : kb ≠ 5 := ht
  clear ht
  have ht : kb ≠ 3 ∧ kb ≠ 4 ∧ kb ≠ 5 := ⟨u3, u4, u5⟩
  clear u3 u4 u5
  have n3 : (kb == 3) = false := by simp; omega
  have n4 : (kb == 4) = false := by simp; omega
  have n5 : (kb == 5) = false := by simp; omega
  have E : ¬ (ka = kb ∧ ca = cb) := fun h => by omega
  rw [decide_eq_false E] at hq
  have HE : Hid (merge N A ⟨ka, ca⟩ ⟨kb, cb⟩ = ⟨6, ByteArray.empty⟩) := merge_t E (by omega) (by omega) (fun h => by omega)
  (try clear E); (try clear hs); (try clear ht); (try clear u3); (try clear u4); (try clear u5)
  go_enter Try.func26, Try.ntmps26
  go_wp2_with fail
  go_quiet (fail)
  generalize hwq : World.drewN _ nq = wq
  obtain ⟨FQ, RQ, ZQ, ⟨a0, a1⟩, ⟨b0, b1⟩, ⟨z0, z1⟩, y0, y1⟩ := RDY.out wq (by rw [← hwq]; exact (Fr.refl no _).drewN' nq)
  clear hwq RDY KA KB KZ F3
  go_wp2_with fail
  refine bodyPost_ret (results_26 _ (w.heap.size + 1 + 1) (.int .i64 6) (.string ByteArray.empty) (two_set ZQ.out) _ rfl) rfl ?_
  rw [HE.out]
  exact ⟨rfl, FIN.out _ _ _ FQ.out⟩

end Go.Proofs.Ytabiagheflkiaaa
