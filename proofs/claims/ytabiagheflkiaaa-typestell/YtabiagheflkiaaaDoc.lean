/- Types: what fits, what both are, how many words: the document's answers. -/
import Derived.Test.YtabiagheflkiaaaRef2
import Derived.Test.YtabiagheflkiaaaMerge
import Derived.BigQuiet
import Derived.Deep.Draws
namespace Go.Proofs.Ytabiagheflkiaaa
open Go.ChangeShapes Go.WideShapes Go.ChangeAt Go.RowKit

theorem docWords_any (w : World) (t : Ty) : Calls Try.prog 28 #[tyV t] w fun e w' => e = .returned (.int .i64 (words t)) ∧ Fr no w w' := by
  obtain ⟨k, c⟩ := t
  unfold tyV
  have HF : Hid (Fr no w (w.alloc (.cells #[.int .i64 k, .string c] 24))) := (Fr.refl no w).alloc _ _
  by_cases h2 : k = 2
  · subst h2
    have HE : Hid (words ⟨2, c⟩ = 2) := rfl
    go_enter Try.func28, Try.ntmps28
    go_wp2_with fail
    go_ret
    rw [HE.out]
    exact ⟨rfl, HF.out⟩
  have q2 : (k == 2) = false := by simpa using h2
  by_cases h1 : k = 1
  · subst h1
    have HE : Hid (words ⟨1, c⟩ = 1) := rfl
    go_enter Try.func28, Try.ntmps28
    go_wp2_with fail
    go_ret
    rw [HE.out]
    exact ⟨rfl, HF.out⟩
  have q1 : (k == 1) = false := by simpa using h1
  by_cases h3 : k = 3
  · subst h3
    have HE : Hid (words ⟨3, c⟩ = 1) := rfl
    go_enter Try.func28, Try.ntmps28
    go_wp2_with fail
    go_ret
    rw [HE.out]
    exact ⟨rfl, HF.out⟩
  have q3 : (k == 3) = false := by simpa using h3
  by_cases h4 : k = 4
  · subst h4
    have HE : Hid (words ⟨4, c⟩ = 1) := rfl
    go_enter Try.func28, Try.ntmps28
    go_wp2_with fail
    go_ret
    rw [HE.out]
    exact ⟨rfl, HF.out⟩
  have q4 : (k == 4) = false := by simpa using h4
  by_cases h5 : k = 5
  · subst h5
    have HE : Hid (words ⟨5, c⟩ = 1) := rfl
    go_enter Try.func28, Try.ntmps28
    go_wp2_with fail
    go_ret
    rw [HE.out]
    exact ⟨rfl, HF.out⟩
  have q5 : (k == 5) = false := by simpa using h5
  have HE : Hid (words ⟨k, c⟩ = 0) := by show _ = _; unfold words; rw [if_neg h2, if_neg (by simp; omega)]
  go_enter Try.func28, Try.ntmps28
  go_wp2_with fail
  go_ret
  rw [HE.out]
  exact ⟨rfl, HF.out⟩

set_option maxHeartbeats 1000000 in
theorem docFits_any (w : World) (p : Nat) (N S : List ByteArray) (A : List Nat) (h : RC w p N S A) (a b : Ty) :
    Calls Try.prog 24 #[.pointer (some ⟨p, 0, none⟩), tyV a, tyV b] w fun e w' => e = .returned (.bool (fits N A a b)) ∧ Fr no w w' := by
  obtain ⟨ka, ca⟩ := a
  obtain ⟨kb, cb⟩ := b
  unfold tyV
  simp only [] at *
  have HF : Hid (Fr no w ((w.alloc (.cells #[.int .i64 ka, .string ca] 24)).alloc (.cells #[.int .i64 kb, .string cb] 24))) := ((Fr.refl no w).alloc _ _).alloc _ _
  have SB := docSub_any ((w.alloc (.cells #[.int .i64 ka, .string ca] 24)).alloc (.cells #[.int .i64 kb, .string cb] 24)) p N S A (h.keep HF.out) ca cb
  clear h
  by_cases b6 : kb = 6
  · have HE : Hid (fits N A ⟨ka, ca⟩ ⟨kb, cb⟩ = true) := by show _ = _; unfold fits; simp only []; rw [if_pos b6]
    have q6 : (kb == 6) = true := by simpa using b6
    clear SB
    (try clear b6); (try clear a5); (try clear b5); (try clear b3); (try clear b4); (try clear b12); (try clear a4); (try clear c3)
    go_enter Try.func24, Try.ntmps24
    go_wp2_with fail
    go_ret
    rw [HE.out]
    exact ⟨by first | rfl | (simp; done) | (simp; omega), HF.out⟩
  have q6 : (kb == 6) = false := by simpa using b6
  by_cases a5 : ka = 5
  · have r5 : (ka == 5) = true := by simpa using a5
    by_cases b5 : kb = 5
    · have HE : Hid (fits N A ⟨ka, ca⟩ ⟨kb, cb⟩ = true) := by show _ = _; unfold fits; simp only []; rw [if_neg b6, if_pos (by omega)]; simp; omega
      have q5 : (kb == 5) = true := by simpa using b5
      clear SB
      (try clear b6); (try clear a5); (try clear b5); (try clear b3); (try clear b4); (try clear b12); (try clear a4); (try clear c3)
      go_enter Try.func24, Try.ntmps24
      go_wp2_with fail
      go_ret
      rw [HE.out]
      exact ⟨by first | rfl | (simp; done) | (simp; omega), HF.out⟩
    have q5 : (kb == 5) = false := by simpa using b5
    by_cases b3 : kb = 3
    · have HE : Hid (fits N A ⟨ka, ca⟩ ⟨kb, cb⟩ = true) := by show _ = _; unfold fits; simp only []; rw [if_neg b6, if_neg (by omega), if_pos b3]; simp; omega
      have q3 : (kb == 3) = true := by simpa using b3
      clear SB
      (try clear b6); (try clear a5); (try clear b5); (try clear b3); (try clear b4); (try clear b12); (try clear a4); (try clear c3)
      go_enter Try.func24, Try.ntmps24
      go_wp2_with fail
      go_ret
      rw [HE.out]
      exact ⟨by first | rfl | (simp; done) | (simp; omega), HF.out⟩
    have q3 : (kb == 3) = false := by simpa using b3
    by_cases b4 : kb = 4
    · have HE : Hid (fits N A ⟨ka, ca⟩ ⟨kb, cb⟩ = true) := by show _ = _; unfold fits; simp only []; rw [if_neg b6, if_neg (by omega), if_neg b3, if_pos b4, if_pos a5]
      have q4 : (kb == 4) = true := by simpa using b4
      clear SB
      (try clear b6); (try clear a5); (try clear b5); (try clear b3); (try clear b4); (try clear b12); (try clear a4); (try clear c3)
      go_enter Try.func24, Try.ntmps24
      go_wp2_with fail
      go_ret
      rw [HE.out]
      exact ⟨by first | rfl | (simp; done) | (simp; omega), HF.out⟩
    have q4 : (kb == 4) = false := by simpa using b4
    by_cases b12 : kb = 1 ∨ kb = 2
    · have HE : Hid (fits N A ⟨ka, ca⟩ ⟨kb, cb⟩ = false) := by show _ = _; unfold fits; simp only []; rw [if_neg b6, if_pos (by omega)]; simp; omega
      clear SB
      (try clear b6); (try clear a5); (try clear b5); (try clear b3); (try clear b4); (try clear b12); (try clear a4); (try clear c3)
      go_enter Try.func24, Try.ntmps24
      go_wp2_with fail
      go_ret
      rw [HE.out]
      exact ⟨by first | rfl | (simp; done) | (simp; omega), HF.out⟩
    have HE : Hid (fits N A ⟨ka, ca⟩ ⟨kb, cb⟩ = false) := by show _ = _; unfold fits; simp only []; rw [if_neg b6, if_neg (by omega), if_neg b3, if_neg b4]
    clear SB
    (try clear b6); (try clear a5); (try clear b5); (try clear b3); (try clear b4); (try clear b12); (try clear a4); (try clear c3)
    go_enter Try.func24, Try.ntmps24
    go_wp2_with fail
    go_ret
    rw [HE.out]
    exact ⟨by first | rfl | (simp; done) | (simp; omega), HF.out⟩
  have r5 : (ka == 5) = false := by simpa using a5
  by_cases e : ka = kb
  · subst e
    by_cases a4 : ka = 4
    · have HE : Hid (fits N A ⟨ka, ca⟩ ⟨ka, cb⟩ = inL cb (anc N A ca)) := by show _ = _; unfold fits; simp only []; rw [if_neg b6, if_neg (by omega), if_neg (by omega), if_pos a4, if_neg a5, if_pos a4]
      have r4 : (ka == 4) = true := by simpa using a4
      generalize inL cb (anc N A ca) = r at *
      (try clear b6); (try clear a5); (try clear b5); (try clear b3); (try clear b4); (try clear b12); (try clear a4); (try clear c3)
      go_enter Try.func24, Try.ntmps24
      go_wp2_with fail
      refine SB.mono ?_
      rintro e w1 ⟨rfl, f1⟩
      have F1 : Hid (Fr no w w1) := HF.out.and f1
      clear f1
      go_wp2_with fail
      go_ret
      rw [HE.out]
      exact ⟨rfl, F1.out⟩
    have r4 : (ka == 4) = false := by simpa using a4
    by_cases l1 : 1 ≤ ka
    · by_cases l3 : ka ≤ 3
      · by_cases c3 : ka = 3
        · have HE : Hid (fits N A ⟨ka, ca⟩ ⟨ka, cb⟩ = true) := by show _ = _; unfold fits; simp only []; rw [if_neg b6, if_neg (by omega), if_pos c3]; simp; omega
          clear SB c3
          (try clear b6); (try clear a5); (try clear b5); (try clear b3); (try clear b4); (try clear b12); (try clear a4); (try clear c3)
          go_enter Try.func24, Try.ntmps24
          go_wp2_with fail
          go_ret
          rw [HE.out]
          exact ⟨by first | rfl | (simp; done) | (simp; omega), HF.out⟩
        have HE : Hid (fits N A ⟨ka, ca⟩ ⟨ka, cb⟩ = true) := by show _ = _; unfold fits; simp only []; rw [if_neg b6, if_pos (by omega)]; simp
        clear SB
        (try clear b6); (try clear a5); (try clear b5); (try clear b3); (try clear b4); (try clear b12); (try clear a4); (try clear c3)
        go_enter Try.func24, Try.ntmps24
        go_wp2_with fail
        go_ret
        rw [HE.out]
        exact ⟨by first | rfl | (simp; done) | (simp; omega), HF.out⟩
      have HE : Hid (fits N A ⟨ka, ca⟩ ⟨ka, cb⟩ = false) := by show _ = _; unfold fits; simp only []; rw [if_neg b6, if_neg (by omega), if_neg (by omega), if_neg a4]
      clear SB
      (try clear b6); (try clear a5); (try clear b5); (try clear b3); (try clear b4); (try clear b12); (try clear a4); (try clear c3)
      go_enter Try.func24, Try.ntmps24
      go_wp2_with fail
      go_ret
      rw [HE.out]
      exact ⟨by first | rfl | (simp; done) | (simp; omega), HF.out⟩
    have HE : Hid (fits N A ⟨ka, ca⟩ ⟨ka, cb⟩ = false) := by show _ = _; unfold fits; simp only []; rw [if_neg b6, if_neg (by omega), if_neg (by omega), if_neg a4]
    clear SB
    (try clear b6); (try clear a5); (try clear b5); (try clear b3); (try clear b4); (try clear b12); (try clear a4); (try clear c3)
    go_enter Try.func24, Try.ntmps24
    go_wp2_with fail
    go_ret
    rw [HE.out]
    exact ⟨by first | rfl | (simp; done) | (simp; omega), HF.out⟩
  have qe : (ka == kb) = false := by simpa using e
  have HE : Hid (fits N A ⟨ka, ca⟩ ⟨kb, cb⟩ = false) := by
    show _ = _
    unfold fits
    simp only []
    rw [if_neg b6]
    by_cases b1 : kb = 1 ∨ kb = 2 ∨ kb = 5
    · rw [if_pos b1]; simpa using e
    rw [if_neg b1]
    by_cases b3 : kb = 3
    · rw [if_pos b3]; simp; omega
    rw [if_neg b3]
    by_cases b4 : kb = 4
    · rw [if_pos b4, if_neg a5, if_neg (by omega)]
    rw [if_neg b4]
  clear SB
  (try clear b6); (try clear a5); (try clear b5); (try clear b3); (try clear b4); (try clear b12); (try clear a4); (try clear c3)
  go_enter Try.func24, Try.ntmps24
  go_wp2_with fail
  go_ret
  rw [HE.out]
  exact ⟨by first | rfl | (simp; done) | (simp; omega), HF.out⟩

theorem results_26 (w : World) (r : Nat) (x y : Value) (h : w.heap[r]? = some (.cells #[x, y] 24 (0, 0))) (tmps : Array Value) (h2 : tmps.getD 6 undef = .pointer (some ⟨r, 0, none⟩)) :
    (results Try.f26 tmps).run Try.prog w = .ok (.agg #[x, y]) w := by
  have hl : (loadVar 24 ⟨r, 0, none⟩).run Try.prog w = .ok (.agg #[x, y]) w := by
    exact run_loadVar_row (P := Try.prog) w r 24 24 #[x, y] (0, 0) _ h Try.underlying24 rfl (by kernel_rfl)
  have h2' : tmps[6]?.getD undef = .pointer (some ⟨r, 0, none⟩) := by simpa using h2
  simp [results, asAddr, h2', hl]

theorem Fr.drewN' {S : Nat → Prop} {a w : World} (h : Fr S a w) (n : Nat) : Fr S a (w.drewN n) := ⟨h.os, h.output, h.size, h.block, h.frozen⟩

theorem first3 (w : World) (x y : Array Value) (z : Array Value) (t1 t2 t3 : TypeId) : (((w.alloc (.cells x t1)).alloc (.cells y t2)).alloc (.cells z t3)).heap[w.heap.size]? = some (.cells x t1 (0, 0)) :=
  (((Fr.refl no (w.alloc (.cells x t1))).alloc _ _).alloc _ _).heap (heap_alloc_new w _) (fun f => f)

theorem second3 (w : World) (x y : Array Value) (z : Array Value) (t1 t2 t3 : TypeId) : (((w.alloc (.cells x t1)).alloc (.cells y t2)).alloc (.cells z t3)).heap[w.heap.size + 1]? = some (.cells y t2 (0, 0)) := by
  have h := heap_alloc_new (w.alloc (.cells x t1)) (.cells y t2)
  have e : (w.alloc (.cells x t1)).heap.size = w.heap.size + 1 := by simp
  rw [e] at h
  exact ((Fr.refl no _).alloc _ _).heap h (fun f => f)

theorem plc_ge (N : List ByteArray) (s : ByteArray) : decide (0 ≤ plc N s) = (ix s N).isSome := by
  unfold plc
  cases ix s N with
  | some i => simp
  | none => rfl

end Go.Proofs.Ytabiagheflkiaaa
