/- What two types are both: the program's answer. -/
import Derived.Test.YtabiagheflkiaaaFits
namespace Go.Proofs.Ytabiagheflkiaaa
open Go.ChangeShapes Go.WideShapes Go.ChangeAt Go.RowKit

theorem results_25 (w : World) (r : Nat) (x y : Value) (h : w.heap[r]? = some (.cells #[x, y] 24 (0, 0))) (tmps : Array Value) (h2 : tmps.getD 6 undef = .pointer (some ⟨r, 0, none⟩)) :
    (results Try.f25 tmps).run Try.prog w = .ok (.agg #[x, y]) w := by
  have hl : (loadVar 24 ⟨r, 0, none⟩).run Try.prog w = .ok (.agg #[x, y]) w := by
    exact run_loadVar_row (P := Try.prog) w r 24 24 #[x, y] (0, 0) _ h Try.underlying24 rfl (by kernel_rfl)
  have h2' : tmps[6]?.getD undef = .pointer (some ⟨r, 0, none⟩) := by simpa using h2
  simp [results, asAddr, h2', hl]

theorem ty_eq (ka kb : Int) (ca cb : ByteArray) (w : World) : (binOp .eql 24 (.agg #[.int .i64 ka, .string ca]) (.agg #[.int .i64 kb, .string cb])).run Try.prog w = .ok (.bool (decide (ka = kb ∧ ca = cb))) w := by
  by_cases h1 : ka = kb
  · subst h1
    by_cases h2 : ca = cb
    · subst h2
      simp [go_sem]
    · have := streq ca cb
      rw [decide_eq_false h2] at this
      simp [go_sem, h2, this]
  · simp [go_sem, h1]

/-- Behind a store into the result's own cell. -/
theorem third (w : World) (x y z : Obj) : (((w.alloc x).alloc y).alloc z).heap[w.heap.size + 1 + 1]? = some z := by
  have : ((w.alloc x).alloc y).heap.size = w.heap.size + 1 + 1 := by simp
  rw [← this]
  exact heap_alloc_new _ _

theorem third' (w : World) (x y z t : Obj) : ((((w.alloc x).alloc y).alloc z).alloc t).heap[w.heap.size + 1 + 1]? = some z := by
  have h := third w x y z
  exact (Below.heap_alloc _ t _ (lt_of_heap h)).trans h

theorem fourth (w : World) (x y z t u : Obj) : (((((w.alloc x).alloc y).alloc z).alloc t).alloc u).heap[w.heap.size + 1 + 1]? = some z := by
  have h := third' w x y z t
  exact (Below.heap_alloc _ u _ (lt_of_heap h)).trans h

theorem two_cells {w : World} {r : Nat} {x y : Value} {t : TypeId} (h : w.heap[r]? = some (.cells #[x, y] t (0, 0))) :
    w.cell? ⟨r, 0, none⟩ = some x ∧ w.cell? ⟨r, 1, none⟩ = some y ∧ w.frozen? ⟨r, 0, none⟩ = false ∧ w.frozen? ⟨r, 1, none⟩ = false := by
  refine ⟨?_, ?_, ?_, ?_⟩ <;> simp [World.cell?, World.frozen?, h]

theorem two_set {w : World} {r : Nat} {x y u v : Value} {t : TypeId} (h : w.heap[r]? = some (.cells #[x, y] t (0, 0))) :
    ((w.setCell ⟨r, 0, none⟩ u).setCell ⟨r, 1, none⟩ v).heap[r]? = some (.cells #[u, v] t (0, 0)) := by
  have h1 : (w.setCell ⟨r, 0, none⟩ u).heap[r]? = some (.cells #[u, y] t (0, 0)) := by
    unfold World.setCell
    rw [Array.getElem?_modify, if_pos rfl, h]
    rfl
  unfold World.setCell at h1 ⊢
  rw [Array.getElem?_modify, if_pos rfl, h1]
  rfl

theorem isRef_no {k : Int} (h : isRef k = false) : k ≠ 3 ∧ k ≠ 4 := by
  unfold isRef at h
  simp at h
  exact h

section
variable {N : List ByteArray} {A : List Nat} {ka kb : Int} {ca cb : ByteArray}
theorem merge_eq (E : ka = kb ∧ ca = cb) : merge N A ⟨ka, ca⟩ ⟨kb, cb⟩ = ⟨ka, ca⟩ := by unfold merge; simp only []; rw [if_pos E]
theorem merge_l (E : ¬ (ka = kb ∧ ca = cb)) (a5 : ka = 5) (r : isRef kb = true) : merge N A ⟨ka, ca⟩ ⟨kb, cb⟩ = ⟨kb, cb⟩ := by unfold merge; simp only []; rw [if_neg E, if_pos ⟨a5, r⟩]
theorem merge_l' (E : ¬ (ka = kb ∧ ca = cb)) (a5 : ka = 5) (r : isRef kb = false) : merge N A ⟨ka, ca⟩ ⟨kb, cb⟩ = ⟨6, ByteArray.empty⟩ := by
  unfold merge; simp only []; rw [if_neg E, if_neg (fun h => by rw [r] at h; simp at h), if_neg (fun h => by rw [a5] at h; simp [isRef] at h), if_neg (by omega)]
theorem merge_r (E : ¬ (ka = kb ∧ ca = cb)) (a5 : ¬ ka = 5) (b5 : kb = 5) (r : isRef ka = true) : merge N A ⟨ka, ca⟩ ⟨kb, cb⟩ = ⟨ka, ca⟩ := by
  unfold merge; simp only []; rw [if_neg E, if_neg (fun h => a5 h.1), if_pos ⟨b5, r⟩]
theorem merge_r' (E : ¬ (ka = kb ∧ ca = cb)) (a5 : ¬ ka = 5) (b5 : kb = 5) (r : isRef ka = false) : merge N A ⟨ka, ca⟩ ⟨kb, cb⟩ = ⟨6, ByteArray.empty⟩ := by
  unfold merge; simp only []; rw [if_neg E, if_neg (fun h => a5 h.1), if_neg (fun h => by rw [r] at h; simp at h), if_neg (by omega)]
theorem merge_c (E : ¬ (ka = kb ∧ ca = cb)) (a4 : ka = 4) (b4 : kb = 4) (x1 : (ix ca N).isSome = true) (x2 : (ix cb N).isSome = true) : merge N A ⟨ka, ca⟩ ⟨kb, cb⟩ = ⟨4, shared (anc N A ca) (anc N A cb)⟩ := by
  unfold merge; simp only []; rw [if_neg E, if_neg (by omega), if_neg (by omega), if_pos ⟨a4, b4, x1, x2⟩]
theorem merge_t (E : ¬ (ka = kb ∧ ca = cb)) (a5 : ¬ ka = 5) (b5 : ¬ kb = 5) (x : ¬ (ka = 4 ∧ kb = 4 ∧ (ix ca N).isSome = true ∧ (ix cb N).isSome = true)) : merge N A ⟨ka, ca⟩ ⟨kb, cb⟩ = ⟨6, ByteArray.empty⟩ := by
  unfold merge; simp only []; rw [if_neg E, if_neg (fun h => a5 h.1), if_neg (fun h => b5 h.1), if_neg x]
end

set_option maxHeartbeats 2000000 in
theorem merge_any {c : Nat} (w : World) (p : Nat) (N : List ByteArray) (A : List Nat) (h : HB c w p N A) (hA : Fine N.length A) (hN : N.length ≤ 1000) (a b : Ty) (ha : a.c.size ≤ 1099511627776) (hb : b.c.size ≤ 1099511627776) :
    Calls Try.prog 25 #[.pointer (some ⟨p, 0, none⟩), tyV a, tyV b] w fun e w' => e = .returned (tyV (merge N A a b)) ∧ Fr no w w' := by
  obtain ⟨ka, ca⟩ := a
  obtain ⟨kb, cb⟩ := b
  have F3 : Hid (Fr no w (((w.alloc (.cells #[.int .i64 ka, .string ca] 24)).alloc (.cells #[.int .i64 kb, .string cb] 24)).alloc (.cells #[.int .i64 0, .string ByteArray.empty] 24))) := (((Fr.refl no w).alloc _ _).alloc _ _).alloc _ _
  have FA : Hid (∀ k s, Fr no w (((w.alloc (.cells #[.int .i64 ka, .string ca] 24)).alloc (.cells #[.int .i64 kb, .string cb] 24)).alloc (.cells #[.int .i64 k, .string s] 24))) := fun k s => (((Fr.refl no w).alloc _ _).alloc _ _).alloc _ _
  have FB : Hid (∀ k s k' s', Fr no w ((((w.alloc (.cells #[.int .i64 ka, .string ca] 24)).alloc (.cells #[.int .i64 kb, .string cb] 24)).alloc (.cells #[.int .i64 k, .string s] 24)).alloc (.cells #[.int .i64 k', .string s'] 24))) := fun k s k' s' => ((((Fr.refl no w).alloc _ _).alloc _ _).alloc _ _).alloc _ _
  have H1 := has_any (((w.alloc (.cells #[.int .i64 ka, .string ca] 24)).alloc (.cells #[.int .i64 kb, .string cb] 24)).alloc (.cells #[.int .i64 0, .string ByteArray.empty] 24)) p N A (h.keep F3.out) ca ha
  have H2 := has_any (((w.alloc (.cells #[.int .i64 ka, .string ca] 24)).alloc (.cells #[.int .i64 kb, .string cb] 24)).alloc (.cells #[.int .i64 0, .string ByteArray.empty] 24)) p N A (h.keep F3.out) cb hb
  have C := common_any (((w.alloc (.cells #[.int .i64 ka, .string ca] 24)).alloc (.cells #[.int .i64 kb, .string cb] 24)).alloc (.cells #[.int .i64 0, .string ByteArray.empty] 24)) p N A (h.keep F3.out) hA hN ca cb ha hb
  have TA := takes_any (((w.alloc (.cells #[.int .i64 ka, .string ca] 24)).alloc (.cells #[.int .i64 kb, .string cb] 24)).alloc (.cells #[.int .i64 0, .string ByteArray.empty] 24)) ⟨ka, ca⟩
  have TB := takes_any (((w.alloc (.cells #[.int .i64 ka, .string ca] 24)).alloc (.cells #[.int .i64 kb, .string cb] 24)).alloc (.cells #[.int .i64 0, .string ByteArray.empty] 24)) ⟨kb, cb⟩
  have hq := ty_eq ka kb ca cb
  simp only [tyV] at *
  clear h hA hN ha hb
  by_cases E : ka = kb ∧ ca = cb
  · have HE : Hid (merge N A ⟨ka, ca⟩ ⟨kb, cb⟩ = ⟨ka, ca⟩) := merge_eq E
    rw [decide_eq_true E] at hq
    clear E H1 H2 C TA TB
    go_enter Try.func25, Try.ntmps25
    go_wp2_with fail
    refine bodyPost_ret (results_25 _ (w.heap.size + 1 + 1) (.int .i64 ka) (.string ca) (third w _ _ _) _ rfl) rfl ?_
    rw [HE.out]
    exact ⟨rfl, FA.out _ _⟩
  rw [decide_eq_false E] at hq
  by_cases a5 : ka = 5
  · cases hr : isRef kb with
    | true =>
      have HE : Hid (merge N A ⟨ka, ca⟩ ⟨kb, cb⟩ = ⟨kb, cb⟩) := merge_l E a5 hr
      subst a5
      rw [hr] at TB
      clear TA E H1 H2 C
      go_enter Try.func25, Try.ntmps25
      go_wp2_with fail
      refine TB.mono ?_
      rintro e w1 ⟨rfl, rfl⟩
      go_wp2_with fail
      refine bodyPost_ret (results_25 _ (w.heap.size + 1 + 1) (.int .i64 kb) (.string cb) (third' w _ _ _ _) _ rfl) rfl ?_
      rw [HE.out]
      exact ⟨rfl, FB.out _ _ _ _⟩
    | false =>
      have HE : Hid (merge N A ⟨ka, ca⟩ ⟨kb, cb⟩ = ⟨6, ByteArray.empty⟩) := merge_l' E a5 hr
      subst a5
      rw [hr] at TB
      clear H1 H2 C
      by_cases b5 : kb = 5
      · subst b5
        clear TA E
        have TA := takes_any ((((w.alloc (.cells #[.int .i64 5, .string ca] 24)).alloc (.cells #[.int .i64 5, .string cb] 24)).alloc (.cells #[.int .i64 0, .string ByteArray.empty] 24)).alloc (.cells #[.int .i64 5, .string cb] 24)) ⟨5, ca⟩
        have i5 : isRef 5 = false := rfl
        simp only [tyV, i5] at TA
        go_enter Try.func25, Try.ntmps25
        go_wp2_with fail
        refine TB.mono ?_
        rintro e w1 ⟨rfl, rfl⟩
        go_wp2_with fail
        refine TA.mono ?_
        rintro e w1 ⟨rfl, rfl⟩
        go_wp2_with fail
        refine bodyPost_ret (results_25 _ (w.heap.size + 1 + 1) (.int .i64 6) (.string ByteArray.empty) (fourth w _ _ _ _ _) _ rfl) rfl ?_
        rw [HE.out]
        exact ⟨rfl, (FB.out _ _ _ _).alloc _ _⟩
      have b5 : (kb == 5) = false := by simpa using b5
      clear TA E
      go_enter Try.func25, Try.ntmps25
      go_wp2_with fail
      refine TB.mono ?_
      rintro e w1 ⟨rfl, rfl⟩
      go_wp2_with fail
      refine bodyPost_ret (results_25 _ (w.heap.size + 1 + 1) (.int .i64 6) (.string ByteArray.empty) (third' w _ _ _ _) _ rfl) rfl ?_
      rw [HE.out]
      exact ⟨rfl, FB.out _ _ _ _⟩
  have q5 : (ka == 5) = false := by simpa using a5
  by_cases b5 : kb = 5
  · cases hr : isRef ka with
    | true =>
      have HE : Hid (merge N A ⟨ka, ca⟩ ⟨kb, cb⟩ = ⟨ka, ca⟩) := merge_r E a5 b5 hr
      subst b5
      clear H1 H2 C TB E
      rw [hr] at TA
      go_enter Try.func25, Try.ntmps25
      go_wp2_with fail
      refine TA.mono ?_
      rintro e w1 ⟨rfl, rfl⟩
      go_wp2_with fail
      refine bodyPost_ret (results_25 _ (w.heap.size + 1 + 1) (.int .i64 ka) (.string ca) (third' w _ _ _ _) _ rfl) rfl ?_
      rw [HE.out]
      exact ⟨rfl, FB.out _ _ _ _⟩
    | false =>
      have HE : Hid (merge N A ⟨ka, ca⟩ ⟨kb, cb⟩ = ⟨6, ByteArray.empty⟩) := merge_r' E a5 b5 hr
      subst b5
      clear H1 H2 C TB E
      rw [hr] at TA
      have n4 : (ka == 4) = false := by simpa using (isRef_no hr).2
      go_enter Try.func25, Try.ntmps25
      go_wp2_with fail
      refine TA.mono ?_
      rintro e w1 ⟨rfl, rfl⟩
      go_wp2_with fail
      refine bodyPost_ret (results_25 _ (w.heap.size + 1 + 1) (.int .i64 6) (.string ByteArray.empty) (third' w _ _ _ _) _ rfl) rfl ?_
      rw [HE.out]
      exact ⟨rfl, FB.out _ _ _ _⟩
  have r5 : (kb == 5) = false := by simpa using b5
  clear TA TB
  by_cases a4 : ka = 4
  · by_cases b4 : kb = 4
    · cases x1 : (ix ca N).isSome with
      | false =>
        have HE : Hid (merge N A ⟨ka, ca⟩ ⟨kb, cb⟩ = ⟨6, ByteArray.empty⟩) := merge_t E a5 b5 (fun h => by rw [x1] at h; simp at h)
        rw [x1] at H1
        subst a4 b4
        clear E a5 b5 q5 r5 H2 C
        go_enter Try.func25, Try.ntmps25
        go_wp2_with fail
        refine H1.mono ?_
        rintro e w1 ⟨rfl, rfl⟩
        go_wp2_with fail
        refine bodyPost_ret (results_25 _ (w.heap.size + 1 + 1) (.int .i64 6) (.string ByteArray.empty) (third w _ _ _) _ rfl) rfl ?_
        rw [HE.out]
        exact ⟨rfl, FA.out _ _⟩
      | true =>
        cases x2 : (ix cb N).isSome with
        | false =>
          have HE : Hid (merge N A ⟨ka, ca⟩ ⟨kb, cb⟩ = ⟨6, ByteArray.empty⟩) := merge_t E a5 b5 (fun h => by rw [x2] at h; simp at h)
          rw [x1] at H1
          rw [x2] at H2
          subst a4 b4
          clear E a5 b5 q5 r5 C
          go_enter Try.func25, Try.ntmps25
          go_wp2_with fail
          refine H1.mono ?_
          rintro e w1 ⟨rfl, rfl⟩
          go_wp2_with fail
          refine H2.mono ?_
          rintro e w1 ⟨rfl, rfl⟩
          go_wp2_with fail
          refine bodyPost_ret (results_25 _ (w.heap.size + 1 + 1) (.int .i64 6) (.string ByteArray.empty) (third w _ _ _) _ rfl) rfl ?_
          rw [HE.out]
          exact ⟨rfl, FA.out _ _⟩
        | true =>
          have HE : Hid (merge N A ⟨ka, ca⟩ ⟨kb, cb⟩ = ⟨4, shared (anc N A ca) (anc N A cb)⟩) := merge_c E a4 b4 x1 x2
          rw [x1] at H1
          rw [x2] at H2
          subst a4 b4
          clear E a5 b5 q5 r5
          have K3 : Hid ((((w.alloc (.cells #[.int .i64 4, .string ca] 24)).alloc (.cells #[.int .i64 4, .string cb] 24)).alloc (.cells #[.int .i64 0, .string ByteArray.empty] 24)).heap[w.heap.size + 1 + 1]? = some (.cells #[.int .i64 0, .string ByteArray.empty] 24 (0, 0))) := third w _ _ _
          generalize shared (anc N A ca) (anc N A cb) = sh at *
          go_enter Try.func25, Try.ntmps25
          go_wp2_with fail
          refine H1.mono ?_
          rintro e w1 ⟨rfl, rfl⟩
          go_wp2_with fail
          refine H2.mono ?_
          rintro e w1 ⟨rfl, rfl⟩
          go_wp2_with fail
          refine C.mono ?_
          rintro e w1 ⟨rfl, f1⟩
          have K4 : Hid (w1.heap[w.heap.size + 1 + 1]? = some (.cells #[.int .i64 0, .string ByteArray.empty] 24 (0, 0))) := f1.heap K3.out (fun f => f)
          obtain ⟨c0, c1, z0, z1⟩ := two_cells K4.out
          have F1 : Hid (Fr no w w1) := F3.out.and f1
          clear f1
          go_wp2_with fail
          refine bodyPost_ret (results_25 _ (w.heap.size + 1 + 1) (.int .i64 4) (.string sh) (two_set K4.out) _ rfl) rfl ?_
          rw [HE.out]
          exact ⟨rfl, (F1.out.setCell (p := ⟨w.heap.size + 1 + 1, 0, none⟩) (fun h => by simp at h; omega) _).setCell (p := ⟨w.heap.size + 1 + 1, 1, none⟩) (fun h => by simp at h; omega) _⟩
    have HE : Hid (merge N A ⟨ka, ca⟩ ⟨kb, cb⟩ = ⟨6, ByteArray.empty⟩) := merge_t E a5 b5 (fun h => b4 h.2.1)
    have s4 : (kb == 4) = false := by simpa using b4
    subst a4
    clear H1 H2 C E a5
    go_enter Try.func25, Try.ntmps25
    go_wp2_with fail
    refine bodyPost_ret (results_25 _ (w.heap.size + 1 + 1) (.int .i64 6) (.string ByteArray.empty) (third w _ _ _) _ rfl) rfl ?_
    rw [HE.out]
    exact ⟨rfl, FA.out _ _⟩
  have HE : Hid (merge N A ⟨ka, ca⟩ ⟨kb, cb⟩ = ⟨6, ByteArray.empty⟩) := merge_t E a5 b5 (fun h => a4 h.1)
  have s4 : (ka == 4) = false := by simpa using a4
  clear H1 H2 C E
  go_enter Try.func25, Try.ntmps25
  go_wp2_with fail
  refine bodyPost_ret (results_25 _ (w.heap.size + 1 + 1) (.int .i64 6) (.string ByteArray.empty) (third w _ _ _) _ rfl) rfl ?_
  rw [HE.out]
  exact ⟨rfl, FA.out _ _⟩
end Go.Proofs.Ytabiagheflkiaaa
