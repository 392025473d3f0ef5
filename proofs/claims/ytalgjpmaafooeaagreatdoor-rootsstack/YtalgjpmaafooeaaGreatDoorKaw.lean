/- What an instruction does to the locks that are held. -/
import Derived.Test.YtalgjpmaafooeaaGreatDoorKav
namespace Go.Proofs.YtalgjpmaafooeaaGreatDoor
open Go.ChangeShapes Go.WideShapes Go.ChangeAt Go.RowKit
open H (ix NewV)
def behP (ins : Int × Int) (h : List Int) : List Int × Bool :=
 if ins.1 = 38 then (if inI ins.2 h = true ∨ h.length = 6 then (h, false) else (h ++ [ins.2], true))
 else if ins.1 = 39 then (if lastI ins.2 h = true then (h.dropLast, true) else (h, false))
 else if ins.1 = 5 then (h, !inI ins.2 h)
 else if ins.1 = 33 ∨ ins.1 = 34 then (h, decide (h.length = 0))
 else (h, true)
theorem results_103 (w : World) (r : Nat) (x0 x1 x2 x3 x4 x5 x6 y : Value) (h : w.heap[r]? = some (.cells #[x0, x1, x2, x3, x4, x5, x6] 99 (0, 0))) (tmps : Array Value) (h2 : tmps.getD 4 undef = .pointer (some ⟨r, 0, none⟩)) (h3 : tmps.getD 5 undef = y) :
 (results Tryz.f97 tmps).run Tryz.prog w = .ok (.tuple #[.agg #[x0, x1, x2, x3, x4, x5, x6], y]) w := by
 have hl : (loadVar 99 ⟨r, 0, none⟩).run Tryz.prog w = .ok (.agg #[x0, x1, x2, x3, x4, x5, x6]) w := run_loadVar_row (P := Tryz.prog) w r 99 99 #[x0, x1, x2, x3, x4, x5, x6] (0, 0) _ h Tryz.underlying99 rfl (by kernel_rfl)
 have h2' : tmps[4]?.getD undef = .pointer (some ⟨r, 0, none⟩) := by simpa using h2
 have h3' : tmps[5]?.getD undef = y := by simpa using h3
 simp [results, asAddr, h2', h3', hl]
theorem chain7 {w : World} {p : Nat} {t : TypeId} {c0 c1 c2 c3 c4 c5 c6 : Value} (h : w.heap[p]? = some (.cells #[c0, c1, c2, c3, c4, c5, c6] t (0, 0))) (x0 x1 x2 x3 x4 x5 x6 : Value) : (((((((w.setCell ⟨p, 0, none⟩ x0).setCell ⟨p, 1, none⟩ x1).setCell ⟨p, 2, none⟩ x2).setCell ⟨p, 3, none⟩ x3).setCell ⟨p, 4, none⟩ x4).setCell ⟨p, 5, none⟩ x5).setCell ⟨p, 6, none⟩ x6).heap[p]? = some (.cells #[x0, x1, x2, x3, x4, x5, x6] t (0, 0)) := by
 have h0 : (w.setCell ⟨p, 0, none⟩ x0).heap[p]? = some (.cells #[x0, c1, c2, c3, c4, c5, c6] t (0, 0)) := set_at h
 have h1 : ((w.setCell ⟨p, 0, none⟩ x0).setCell ⟨p, 1, none⟩ x1).heap[p]? = some (.cells #[x0, x1, c2, c3, c4, c5, c6] t (0, 0)) := set_at h0
 have h2 : (((w.setCell ⟨p, 0, none⟩ x0).setCell ⟨p, 1, none⟩ x1).setCell ⟨p, 2, none⟩ x2).heap[p]? = some (.cells #[x0, x1, x2, c3, c4, c5, c6] t (0, 0)) := set_at h1
 have h3 : ((((w.setCell ⟨p, 0, none⟩ x0).setCell ⟨p, 1, none⟩ x1).setCell ⟨p, 2, none⟩ x2).setCell ⟨p, 3, none⟩ x3).heap[p]? = some (.cells #[x0, x1, x2, x3, c4, c5, c6] t (0, 0)) := set_at h2
 have h4 : (((((w.setCell ⟨p, 0, none⟩ x0).setCell ⟨p, 1, none⟩ x1).setCell ⟨p, 2, none⟩ x2).setCell ⟨p, 3, none⟩ x3).setCell ⟨p, 4, none⟩ x4).heap[p]? = some (.cells #[x0, x1, x2, x3, x4, c5, c6] t (0, 0)) := set_at h3
 have h5 : ((((((w.setCell ⟨p, 0, none⟩ x0).setCell ⟨p, 1, none⟩ x1).setCell ⟨p, 2, none⟩ x2).setCell ⟨p, 3, none⟩ x3).setCell ⟨p, 4, none⟩ x4).setCell ⟨p, 5, none⟩ x5).heap[p]? = some (.cells #[x0, x1, x2, x3, x4, x5, c6] t (0, 0)) := set_at h4
 exact set_at h5
theorem frc7 (w : World) (p : Nat) (x0 x1 x2 x3 x4 x5 x6 : Value) : Fr (fun k => k = p) w (((((((w.setCell ⟨p, 0, none⟩ x0).setCell ⟨p, 1, none⟩ x1).setCell ⟨p, 2, none⟩ x2).setCell ⟨p, 3, none⟩ x3).setCell ⟨p, 4, none⟩ x4).setCell ⟨p, 5, none⟩ x5).setCell ⟨p, 6, none⟩ x6) :=
 (((((((Fr.refl (fun k => k = p) w).setCell (p := ⟨p, 0, none⟩) (fun _ => rfl) x0).setCell (p := ⟨p, 1, none⟩) (fun _ => rfl) x1).setCell (p := ⟨p, 2, none⟩) (fun _ => rfl) x2).setCell (p := ⟨p, 3, none⟩) (fun _ => rfl) x3).setCell (p := ⟨p, 4, none⟩) (fun _ => rfl) x4).setCell (p := ⟨p, 5, none⟩) (fun _ => rfl) x5).setCell (p := ⟨p, 6, none⟩) (fun _ => rfl) x6
theorem boxes3 (w : World) (op a : Int) (A : Array Value) : ∃ W : World, ((w.alloc (.cells #[.int .i64 op, .int .i64 a] 27)).alloc (.cells A 99)).alloc (.cells #[.int .i64 0, .int .i64 0, .int .i64 0, .int .i64 0, .int .i64 0, .int .i64 0, .int .i64 0] 99) = W ∧ Fr no w W ∧ W.heap[w.heap.size]? = some (.cells #[.int .i64 op, .int .i64 a] 27 (0, 0)) ∧ W.heap[w.heap.size + 1]? = some (.cells A 99 (0, 0)) ∧ W.heap[w.heap.size + 1 + 1]? = some (.cells #[.int .i64 0, .int .i64 0, .int .i64 0, .int .i64 0, .int .i64 0, .int .i64 0, .int .i64 0] 99 (0, 0)) := by
 have G2 : Fr no (w.alloc (.cells #[.int .i64 op, .int .i64 a] 27)) ((w.alloc (.cells #[.int .i64 op, .int .i64 a] 27)).alloc (.cells A 99)) := (Fr.refl no _).alloc _ _
 have G3 : Fr no ((w.alloc (.cells #[.int .i64 op, .int .i64 a] 27)).alloc (.cells A 99)) (((w.alloc (.cells #[.int .i64 op, .int .i64 a] 27)).alloc (.cells A 99)).alloc (.cells #[.int .i64 0, .int .i64 0, .int .i64 0, .int .i64 0, .int .i64 0, .int .i64 0, .int .i64 0] 99)) := (Fr.refl no _).alloc _ _
 refine ⟨_, rfl, (((Fr.refl no w).alloc _ _).new G2 (fun _ _ f => f)).new G3 (fun _ _ f => f), (G2.new G3 (fun _ _ f => f)).heap (heap_alloc_new w _) (fun f => f), G3.heap ?_ (fun f => f), ?_⟩
 · have := heap_alloc_new (w.alloc (.cells #[.int .i64 op, .int .i64 a] 27)) (.cells A 99)
   rwa [size_alloc] at this
 · have := heap_alloc_new ((w.alloc (.cells #[.int .i64 op, .int .i64 a] 27)).alloc (.cells A 99)) (.cells #[.int .i64 0, .int .i64 0, .int .i64 0, .int .i64 0, .int .i64 0, .int .i64 0, .int .i64 0] 99)
   rwa [size_alloc, size_alloc] at this
theorem hl_open (h : List Int) : ∃ n x0 x1 x2 x3 x4 x5 : Int, hlV h = .agg #[.int .i64 n, .int .i64 x0, .int .i64 x1, .int .i64 x2, .int .i64 x3, .int .i64 x4, .int .i64 x5] ∧ n = (h.length : Int) := ⟨_, _, _, _, _, _, _, rfl, rfl⟩
set_option maxRecDepth 100000 in
set_option maxHeartbeats 4000000 in
theorem beh_plain (w : World) (op a : Int) (h : List Int) (h38 : op ≠ 38) (h39 : op ≠ 39) (h5 : op ≠ 5) (h33 : op ≠ 33) (h34 : op ≠ 34) : Calls Tryz.prog 97 #[.agg #[.int .i64 op, .int .i64 a], hlV h] w fun e w' => e = .returned (.tuple #[hlV (behP (op, a) h).1, .bool (behP (op, a) h).2]) ∧ Fr no w w' := by
 have hb : behP (op, a) h = (h, true) := by unfold behP; simp only; rw [if_neg h38, if_neg h39, if_neg h5, if_neg (by omega)]
 have m1 : (op == 38) = false := by simpa using h38
 have m2 : (op == 39) = false := by simpa using h39
 have m3 : (op == 5) = false := by simpa using h5
 have m4 : (op == 33) = false := by simpa using h33
 have m5 : (op == 34) = false := by simpa using h34
 obtain ⟨n, x0, x1, x2, x3, x4, x5, hv, hn⟩ := hl_open h
 obtain ⟨W, hW, FW, E0, E1, E2⟩ := boxes3 w op a #[.int .i64 n, .int .i64 x0, .int .i64 x1, .int .i64 x2, .int .i64 x3, .int .i64 x4, .int .i64 x5]
 obtain ⟨z0, z1⟩ := bx2 E0
 obtain ⟨y0, y1, y2, y3, y4, y5, y6⟩ := bx7 E1
 obtain ⟨v0, v1, v2, v3, v4, v5, v6⟩ := bx7 E2
 have fz := fun o => frozen_at (o := o) E2
 have HC : Hid (_ ∧ _) := ⟨chain7 E2 (.int .i64 n) (.int .i64 x0) (.int .i64 x1) (.int .i64 x2) (.int .i64 x3) (.int .i64 x4) (.int .i64 x5), FW.new (frc7 W (w.heap.size + 1 + 1) (.int .i64 n) (.int .i64 x0) (.int .i64 x1) (.int .i64 x2) (.int .i64 x3) (.int .i64 x4) (.int .i64 x5)) (fun i hi e => by omega)⟩
 rw [hb]
 simp only
 rw [hv]
 clear E0 E1 E2 FW h38 h39 h5 h33 h34 hv hn hb
 go_enter Tryz.func97, Tryz.ntmps97
 go_wp2_with fail
 exact bodyPost_ret (results_103 _ (w.heap.size + 1 + 1) _ _ _ _ _ _ _ _ HC.out.1 _ rfl rfl) rfl ⟨rfl, HC.out.2⟩
set_option maxRecDepth 100000 in
set_option maxHeartbeats 4000000 in
theorem beh_38 (w : World) (a : Int) (h : List Int) (hl : h.length ≤ 6) : Calls Tryz.prog 97 #[.agg #[.int .i64 38, .int .i64 a], hlV h] w fun e w' => e = .returned (.tuple #[hlV (behP (38, a) h).1, .bool (behP (38, a) h).2]) ∧ Fr no w w' := by
 obtain ⟨n, x0, x1, x2, x3, x4, x5, hv, hn⟩ := hl_open h
 obtain ⟨W, hW, FW, E0, E1, E2⟩ := boxes3 w 38 a #[.int .i64 n, .int .i64 x0, .int .i64 x1, .int .i64 x2, .int .i64 x3, .int .i64 x4, .int .i64 x5]
 have HA := heldHas_any W h hl a
 have HE : Hid (_ ∧ _ ∧ _) := ⟨E0, E1, E2⟩
 have HW : Hid (Fr no w W) := FW
 obtain ⟨z0, z1⟩ := bx2 E0
 obtain ⟨y0, y1, y2, y3, y4, y5, y6⟩ := bx7 E1
 clear E0 E1 E2 FW
 cases hin : inI a h with
 | true =>
  have hb : behP (38, a) h = (h, false) := by simp [behP, hin]
  rw [hin] at HA
  rw [hb]
  simp only
  rw [hv] at HA ⊢
  clear hv hn hb hin
  go_enter Tryz.func97, Tryz.ntmps97
  go_wp2_with fail
  refine HA.mono ?_
  rintro e w2 ⟨rfl, f2⟩
  clear z0 z1 y0 y1 y2 y3 y4 y5 y6
  have E1' := f2.heap HE.out.2.1 (fun f => f)
  have E2' := f2.heap HE.out.2.2 (fun f => f)
  obtain ⟨z0, z1⟩ := bx2 (f2.heap HE.out.1 (fun f => f))
  obtain ⟨y0, y1, y2, y3, y4, y5, y6⟩ := bx7 E1'
  obtain ⟨v0, v1, v2, v3, v4, v5, v6⟩ := bx7 E2'
  have fz := fun o => frozen_at (o := o) E2'
  have HC : Hid (_ ∧ _) := ⟨chain7 E2' (.int .i64 n) (.int .i64 x0) (.int .i64 x1) (.int .i64 x2) (.int .i64 x3) (.int .i64 x4) (.int .i64 x5), (HW.out.new f2 (fun _ _ f => f)).new (frc7 w2 (w.heap.size + 1 + 1) (.int .i64 n) (.int .i64 x0) (.int .i64 x1) (.int .i64 x2) (.int .i64 x3) (.int .i64 x4) (.int .i64 x5)) (fun i hi e => by omega)⟩
  clear HA f2 E1' E2'
  go_wp2_with fail
  exact bodyPost_ret (results_103 _ (w.heap.size + 1 + 1) _ _ _ _ _ _ _ _ HC.out.1 _ rfl rfl) rfl ⟨rfl, HC.out.2⟩
 | false =>
  rw [hin] at HA
  by_cases h6 : h.length = 6
  · have hb : behP (38, a) h = (h, false) := by simp [behP, h6]
    have n6 : n = 6 := by rw [hn, h6]; rfl
    rw [hb]
    simp only
    rw [hv] at HA ⊢
    clear hv hn hb hin h6 hl
    subst n6
    go_enter Tryz.func97, Tryz.ntmps97
    go_wp2_with fail
    refine HA.mono ?_
    rintro e w2 ⟨rfl, f2⟩
    clear z0 z1 y0 y1 y2 y3 y4 y5 y6
    have E1' := f2.heap HE.out.2.1 (fun f => f)
    have E2' := f2.heap HE.out.2.2 (fun f => f)
    obtain ⟨z0, z1⟩ := bx2 (f2.heap HE.out.1 (fun f => f))
    obtain ⟨y0, y1, y2, y3, y4, y5, y6⟩ := bx7 E1'
    obtain ⟨v0, v1, v2, v3, v4, v5, v6⟩ := bx7 E2'
    have fz := fun o => frozen_at (o := o) E2'
    have HC : Hid (_ ∧ _) := ⟨chain7 E2' (.int .i64 6) (.int .i64 x0) (.int .i64 x1) (.int .i64 x2) (.int .i64 x3) (.int .i64 x4) (.int .i64 x5), (HW.out.new f2 (fun _ _ f => f)).new (frc7 w2 (w.heap.size + 1 + 1) (.int .i64 6) (.int .i64 x0) (.int .i64 x1) (.int .i64 x2) (.int .i64 x3) (.int .i64 x4) (.int .i64 x5)) (fun i hi e => by omega)⟩
    clear HA f2 E1' E2'
    go_wp2_with fail
    exact bodyPost_ret (results_103 _ (w.heap.size + 1 + 1) _ _ _ _ _ _ _ _ HC.out.1 _ rfl rfl) rfl ⟨rfl, HC.out.2⟩
  · have hb : behP (38, a) h = (h ++ [a], true) := by simp [behP, hin, h6]
    have n6 : (n == 6) = false := by rw [hn]; simp; omega
    have HWI : Hid (∀ w', Calls Tryz.prog 120 #[.agg #[.int .i64 n, .int .i64 x0, .int .i64 x1, .int .i64 x2, .int .i64 x3, .int .i64 x4, .int .i64 x5], .int .i64 a] w' fun e w2 => e = .returned (hlV (h ++ [a])) ∧ Fr no w' w2) := fun w' => by rw [← hv]; exact with_any w' h (by omega) a
    obtain ⟨m, t0, t1, t2, t3, t4, t5, hvt, -⟩ := hl_open (h ++ [a])
    rw [hb]
    simp only
    rw [hvt] at HWI ⊢
    rw [hv] at HA ⊢
    clear hv hn hb hin h6 hl hvt
    go_enter Tryz.func97, Tryz.ntmps97
    go_wp2_with fail
    refine HA.mono ?_
    rintro e w2 ⟨rfl, f2⟩
    clear z0 z1 y0 y1 y2 y3 y4 y5 y6
    have E1' := f2.heap HE.out.2.1 (fun f => f)
    have E2' := f2.heap HE.out.2.2 (fun f => f)
    obtain ⟨z0, z1⟩ := bx2 (f2.heap HE.out.1 (fun f => f))
    obtain ⟨y0, y1, y2, y3, y4, y5, y6⟩ := bx7 E1'
    obtain ⟨v0, v1, v2, v3, v4, v5, v6⟩ := bx7 E2'
    have fz := fun o => frozen_at (o := o) E2'
    have WI := HWI.out w2
    have HF2 : Hid _ := f2
    clear HA f2 E1' E2' v0 v1 v2 v3 v4 v5 v6 fz
    go_wp2_with fail
    refine WI.mono ?_
    rintro e w3 ⟨rfl, f3⟩
    have f23 : Fr no W w3 := HF2.out.new f3 (fun _ _ f => f)
    clear z0 z1 y0 y1 y2 y3 y4 y5 y6
    have E1' := f23.heap HE.out.2.1 (fun f => f)
    have E2' := f23.heap HE.out.2.2 (fun f => f)
    obtain ⟨z0, z1⟩ := bx2 (f23.heap HE.out.1 (fun f => f))
    obtain ⟨y0, y1, y2, y3, y4, y5, y6⟩ := bx7 E1'
    obtain ⟨v0, v1, v2, v3, v4, v5, v6⟩ := bx7 E2'
    have fz := fun o => frozen_at (o := o) E2'
    have HC : Hid (_ ∧ _) := ⟨chain7 E2' (.int .i64 m) (.int .i64 t0) (.int .i64 t1) (.int .i64 t2) (.int .i64 t3) (.int .i64 t4) (.int .i64 t5), (HW.out.new f23 (fun _ _ f => f)).new (frc7 w3 (w.heap.size + 1 + 1) (.int .i64 m) (.int .i64 t0) (.int .i64 t1) (.int .i64 t2) (.int .i64 t3) (.int .i64 t4) (.int .i64 t5)) (fun i hi e => by omega)⟩
    clear WI f3 f23 E1' E2'
    go_wp2_with fail
    exact bodyPost_ret (results_103 _ (w.heap.size + 1 + 1) _ _ _ _ _ _ _ _ HC.out.1 _ rfl rfl) rfl ⟨rfl, HC.out.2⟩
set_option maxRecDepth 100000 in
set_option maxHeartbeats 4000000 in
theorem beh_39 (w : World) (a : Int) (h : List Int) (hl : h.length ≤ 6) : Calls Tryz.prog 97 #[.agg #[.int .i64 39, .int .i64 a], hlV h] w fun e w' => e = .returned (.tuple #[hlV (behP (39, a) h).1, .bool (behP (39, a) h).2]) ∧ Fr no w w' := by
 obtain ⟨n, x0, x1, x2, x3, x4, x5, hv, hn⟩ := hl_open h
 obtain ⟨W, hW, FW, E0, E1, E2⟩ := boxes3 w 39 a #[.int .i64 n, .int .i64 x0, .int .i64 x1, .int .i64 x2, .int .i64 x3, .int .i64 x4, .int .i64 x5]
 have HA := isLast_any W h hl a
 have HE : Hid (_ ∧ _ ∧ _) := ⟨E0, E1, E2⟩
 have HW : Hid (Fr no w W) := FW
 obtain ⟨z0, z1⟩ := bx2 E0
 obtain ⟨y0, y1, y2, y3, y4, y5, y6⟩ := bx7 E1
 clear E0 E1 E2 FW
 cases hin : lastI a h with
 | false =>
  have hb : behP (39, a) h = (h, false) := by simp [behP, hin]
  rw [hin] at HA
  rw [hb]
  simp only
  rw [hv] at HA ⊢
  clear hv hn hb hin
  go_enter Tryz.func97, Tryz.ntmps97
  go_wp2_with fail
  refine HA.mono ?_
  rintro e w2 ⟨rfl, f2⟩
  clear z0 z1 y0 y1 y2 y3 y4 y5 y6
  have E1' := f2.heap HE.out.2.1 (fun f => f)
  have E2' := f2.heap HE.out.2.2 (fun f => f)
  obtain ⟨z0, z1⟩ := bx2 (f2.heap HE.out.1 (fun f => f))
  obtain ⟨y0, y1, y2, y3, y4, y5, y6⟩ := bx7 E1'
  obtain ⟨v0, v1, v2, v3, v4, v5, v6⟩ := bx7 E2'
  have fz := fun o => frozen_at (o := o) E2'
  have HC : Hid (_ ∧ _) := ⟨chain7 E2' (.int .i64 n) (.int .i64 x0) (.int .i64 x1) (.int .i64 x2) (.int .i64 x3) (.int .i64 x4) (.int .i64 x5), (HW.out.new f2 (fun _ _ f => f)).new (frc7 w2 (w.heap.size + 1 + 1) (.int .i64 n) (.int .i64 x0) (.int .i64 x1) (.int .i64 x2) (.int .i64 x3) (.int .i64 x4) (.int .i64 x5)) (fun i hi e => by omega)⟩
  clear HA f2 E1' E2'
  go_wp2_with fail
  exact bodyPost_ret (results_103 _ (w.heap.size + 1 + 1) _ _ _ _ _ _ _ _ HC.out.1 _ rfl rfl) rfl ⟨rfl, HC.out.2⟩
 | true =>
  have hb : behP (39, a) h = (h.dropLast, true) := by simp [behP, hin]
  have h0 : 0 < h.length := by
   cases h with
   | nil => exact absurd hin (by simp [lastI])
   | cons x l => simp
  have hn9 : 0 ≤ n ∧ n ≤ 6 := by omega
  have HWI : Hid (∀ w', Calls Tryz.prog 122 #[.agg #[.int .i64 n, .int .i64 x0, .int .i64 x1, .int .i64 x2, .int .i64 x3, .int .i64 x4, .int .i64 x5], .int .i64 (n - 1)] w' fun e w2 => e = .returned (hlV h.dropLast) ∧ Fr no w' w2) := fun w' => by rw [← hv, hn]; exact first_any w' h hl h0
  obtain ⟨m, t0, t1, t2, t3, t4, t5, hvt, -⟩ := hl_open h.dropLast
  rw [hin] at HA
  rw [hb]
  simp only
  rw [hvt] at HWI ⊢
  rw [hv] at HA ⊢
  clear hv hn hb hin hl hvt h0
  go_enter Tryz.func97, Tryz.ntmps97
  go_wp2_with fail
  refine HA.mono ?_
  rintro e w2 ⟨rfl, f2⟩
  clear z0 z1 y0 y1 y2 y3 y4 y5 y6
  have E1' := f2.heap HE.out.2.1 (fun f => f)
  have E2' := f2.heap HE.out.2.2 (fun f => f)
  obtain ⟨z0, z1⟩ := bx2 (f2.heap HE.out.1 (fun f => f))
  obtain ⟨y0, y1, y2, y3, y4, y5, y6⟩ := bx7 E1'
  obtain ⟨v0, v1, v2, v3, v4, v5, v6⟩ := bx7 E2'
  have fz := fun o => frozen_at (o := o) E2'
  have WI := HWI.out w2
  have HF2 : Hid _ := f2
  clear HA f2 E1' E2' v0 v1 v2 v3 v4 v5 v6 fz
  go_wp2_with fail
  refine WI.mono ?_
  rintro e w3 ⟨rfl, f3⟩
  have f23 : Fr no W w3 := HF2.out.new f3 (fun _ _ f => f)
  clear z0 z1 y0 y1 y2 y3 y4 y5 y6
  have E1' := f23.heap HE.out.2.1 (fun f => f)
  have E2' := f23.heap HE.out.2.2 (fun f => f)
  obtain ⟨z0, z1⟩ := bx2 (f23.heap HE.out.1 (fun f => f))
  obtain ⟨y0, y1, y2, y3, y4, y5, y6⟩ := bx7 E1'
  obtain ⟨v0, v1, v2, v3, v4, v5, v6⟩ := bx7 E2'
  have fz := fun o => frozen_at (o := o) E2'
  have HC : Hid (_ ∧ _) := ⟨chain7 E2' (.int .i64 m) (.int .i64 t0) (.int .i64 t1) (.int .i64 t2) (.int .i64 t3) (.int .i64 t4) (.int .i64 t5), (HW.out.new f23 (fun _ _ f => f)).new (frc7 w3 (w.heap.size + 1 + 1) (.int .i64 m) (.int .i64 t0) (.int .i64 t1) (.int .i64 t2) (.int .i64 t3) (.int .i64 t4) (.int .i64 t5)) (fun i hi e => by omega)⟩
  clear WI f3 f23 E1' E2'
  go_wp2_with fail
  exact bodyPost_ret (results_103 _ (w.heap.size + 1 + 1) _ _ _ _ _ _ _ _ HC.out.1 _ rfl rfl) rfl ⟨rfl, HC.out.2⟩
set_option maxRecDepth 100000 in
set_option maxHeartbeats 4000000 in
theorem beh_33 (w : World) (a : Int) (h : List Int) : Calls Tryz.prog 97 #[.agg #[.int .i64 33, .int .i64 a], hlV h] w fun e w' => e = .returned (.tuple #[hlV (behP (33, a) h).1, .bool (behP (33, a) h).2]) ∧ Fr no w w' := by
 have hb : behP (33, a) h = (h, decide ((h.length : Int) = 0)) := by
  have e : decide ((h.length : Int) = 0) = decide (h.length = 0) := by by_cases q : h.length = 0 <;> simp [q]
  rw [e]; rfl
 obtain ⟨n, x0, x1, x2, x3, x4, x5, hv, hn⟩ := hl_open h
 obtain ⟨W, hW, FW, E0, E1, E2⟩ := boxes3 w 33 a #[.int .i64 n, .int .i64 x0, .int .i64 x1, .int .i64 x2, .int .i64 x3, .int .i64 x4, .int .i64 x5]
 have hD : Fr no W W.drew := (Fr.refl no W).drew
 have HS0 : Hid (W.drew.heap[w.heap.size + 1]? = some (.cells #[.int .i64 n, .int .i64 x0, .int .i64 x1, .int .i64 x2, .int .i64 x3, .int .i64 x4, .int .i64 x5] 99 (0, 0))) := hD.heap E1 (fun f => f)
 obtain ⟨w6, r6, h6, F6⟩ := store_mid W.drew (w.heap.size + 1 + 1) 0 99 99 #[.int .i64 0, .int .i64 0, .int .i64 0, .int .i64 0, .int .i64 0, .int .i64 0, .int .i64 0] #[.int .i64 n, .int .i64 x0, .int .i64 x1, .int .i64 x2, .int .i64 x3, .int .i64 x4, .int .i64 x5] (hD.heap E2 (fun f => f)) (by simp) (by kernel_rfl) (by kernel_rfl)
 have HC : Hid (w6.heap[w.heap.size + 1 + 1]? = some (.cells #[.int .i64 n, .int .i64 x0, .int .i64 x1, .int .i64 x2, .int .i64 x3, .int .i64 x4, .int .i64 x5] 99 (0, 0)) ∧ Fr no w w6) := ⟨h6, (FW.new hD (fun _ _ f => f)).new F6 (fun i hi e => by omega)⟩
 have HS1 : Hid (w6.heap[w.heap.size + 1]? = some (.cells #[.int .i64 n, .int .i64 x0, .int .i64 x1, .int .i64 x2, .int .i64 x3, .int .i64 x4, .int .i64 x5] 99 (0, 0))) := F6.heap HS0.out (fun e => by omega)
 have z0 := (bx2 E0).1
 rw [hb, ← hn]
 simp only
 rw [hv]
 clear E0 E1 E2 FW hv hn hb h6 F6 hD
 have HN : Hid (decide (n = 0) = (n == 0)) := by show _ = _; by_cases q : n = 0 <;> simp [q]
 rw [HN.out]
 go_enter Tryz.func97, Tryz.ntmps97
 go_wp2_with fail
 refine late_begin (S := fun w' => w'.heap[w.heap.size + 1]? = some (.cells #[.int .i64 n, .int .i64 x0, .int .i64 x1, .int .i64 x2, .int .i64 x3, .int .i64 x4, .int .i64 x5] 99 (0, 0))) (g := 5) (by kernel_rfl) ?_
 refine lateT 0 (.agg #[.int .i64 n, .int .i64 x0, .int .i64 x1, .int .i64 x2, .int .i64 x3, .int .i64 x4, .int .i64 x5]) rfl (fun w' hS => ev_load 99 3 (.pointer (some ⟨w.heap.size + 1, 0, none⟩)) _ rfl (by kernel_rfl) (load_row w' (w.heap.size + 1) 99 _ _ hS Tryz.underlying99 rfl (by kernel_rfl))) (HS0.out) ?_
 refine lateP 1 (.pointer (some ⟨w.heap.size + 1, 0, none⟩)) rfl (fun _ => ev_field 99 3 0 (.pointer (some ⟨w.heap.size + 1, 0, none⟩)) _ rfl (by kernel_rfl) (by kernel_rfl)) (fun _ => HS0.out) ?_
 refine lateT 2 (.int .i64 n) rfl (fun w' hS => ev_load 3 49 (.pointer (some ⟨w.heap.size + 1, 0, none⟩)) _ rfl (by kernel_rfl) (by simp [go_sem, cell_at (o := 0) hS])) (HS0.out) ?_
 refine lateP 3 (.bool (n == 0)) rfl (fun _ => by kernel_rfl) (fun _ => HS0.out) ?_
 refine late_all [4] (by kernel_rfl) (by simp) (fun jj hjj => ?_)
 obtain rfl := one_of hjj
 refine late_skip rfl rfl (ev_store 99 4 48 (.pointer (some ⟨w.heap.size + 1 + 1, 0, none⟩)) (.agg #[.int .i64 n, .int .i64 x0, .int .i64 x1, .int .i64 x2, .int .i64 x3, .int .i64 x4, .int .i64 x5]) w6 rfl (by kernel_rfl) (by kernel_rfl) r6) ?_
 refine ⟨fun _ => HS1.out, ?_⟩
 refine late_all [5] (by kernel_rfl) (by simp) (fun jj hjj => ?_)
 obtain rfl := one_of hjj
 refine late_op rfl rfl (ev_assign 51 (.bool (n == 0)) rfl (by kernel_rfl)) ?_
 refine ⟨(fun h => Bool.noConfusion (show true = false from h)), ?_⟩
 refine late_done (by kernel_rfl) ?_
 go_wp2_with fail
 exact bodyPost_ret (results_103 _ (w.heap.size + 1 + 1) _ _ _ _ _ _ _ _ HC.out.1 _ (by kernel_rfl) (by kernel_rfl)) (by kernel_rfl) ⟨rfl, HC.out.2⟩
set_option maxRecDepth 100000 in
set_option maxHeartbeats 4000000 in
theorem beh_34 (w : World) (a : Int) (h : List Int) : Calls Tryz.prog 97 #[.agg #[.int .i64 34, .int .i64 a], hlV h] w fun e w' => e = .returned (.tuple #[hlV (behP (34, a) h).1, .bool (behP (34, a) h).2]) ∧ Fr no w w' := by
 have hb : behP (34, a) h = (h, decide ((h.length : Int) = 0)) := by
  have e : decide ((h.length : Int) = 0) = decide (h.length = 0) := by by_cases q : h.length = 0 <;> simp [q]
  rw [e]; rfl
 obtain ⟨n, x0, x1, x2, x3, x4, x5, hv, hn⟩ := hl_open h
 obtain ⟨W, hW, FW, E0, E1, E2⟩ := boxes3 w 34 a #[.int .i64 n, .int .i64 x0, .int .i64 x1, .int .i64 x2, .int .i64 x3, .int .i64 x4, .int .i64 x5]
 have hD : Fr no W W.drew := (Fr.refl no W).drew
 have HS0 : Hid (W.drew.heap[w.heap.size + 1]? = some (.cells #[.int .i64 n, .int .i64 x0, .int .i64 x1, .int .i64 x2, .int .i64 x3, .int .i64 x4, .int .i64 x5] 99 (0, 0))) := hD.heap E1 (fun f => f)
 obtain ⟨w6, r6, h6, F6⟩ := store_mid W.drew (w.heap.size + 1 + 1) 0 99 99 #[.int .i64 0, .int .i64 0, .int .i64 0, .int .i64 0, .int .i64 0, .int .i64 0, .int .i64 0] #[.int .i64 n, .int .i64 x0, .int .i64 x1, .int .i64 x2, .int .i64 x3, .int .i64 x4, .int .i64 x5] (hD.heap E2 (fun f => f)) (by simp) (by kernel_rfl) (by kernel_rfl)
 have HC : Hid (w6.heap[w.heap.size + 1 + 1]? = some (.cells #[.int .i64 n, .int .i64 x0, .int .i64 x1, .int .i64 x2, .int .i64 x3, .int .i64 x4, .int .i64 x5] 99 (0, 0)) ∧ Fr no w w6) := ⟨h6, (FW.new hD (fun _ _ f => f)).new F6 (fun i hi e => by omega)⟩
 have HS1 : Hid (w6.heap[w.heap.size + 1]? = some (.cells #[.int .i64 n, .int .i64 x0, .int .i64 x1, .int .i64 x2, .int .i64 x3, .int .i64 x4, .int .i64 x5] 99 (0, 0))) := F6.heap HS0.out (fun e => by omega)
 have z0 := (bx2 E0).1
 rw [hb, ← hn]
 simp only
 rw [hv]
 clear E0 E1 E2 FW hv hn hb h6 F6 hD
 have HN : Hid (decide (n = 0) = (n == 0)) := by show _ = _; by_cases q : n = 0 <;> simp [q]
 rw [HN.out]
 go_enter Tryz.func97, Tryz.ntmps97
 go_wp2_with fail
 refine late_begin (S := fun w' => w'.heap[w.heap.size + 1]? = some (.cells #[.int .i64 n, .int .i64 x0, .int .i64 x1, .int .i64 x2, .int .i64 x3, .int .i64 x4, .int .i64 x5] 99 (0, 0))) (g := 5) (by kernel_rfl) ?_
 refine lateT 0 (.agg #[.int .i64 n, .int .i64 x0, .int .i64 x1, .int .i64 x2, .int .i64 x3, .int .i64 x4, .int .i64 x5]) rfl (fun w' hS => ev_load 99 3 (.pointer (some ⟨w.heap.size + 1, 0, none⟩)) _ rfl (by kernel_rfl) (load_row w' (w.heap.size + 1) 99 _ _ hS Tryz.underlying99 rfl (by kernel_rfl))) (HS0.out) ?_
 refine lateP 1 (.pointer (some ⟨w.heap.size + 1, 0, none⟩)) rfl (fun _ => ev_field 99 3 0 (.pointer (some ⟨w.heap.size + 1, 0, none⟩)) _ rfl (by kernel_rfl) (by kernel_rfl)) (fun _ => HS0.out) ?_
 refine lateT 2 (.int .i64 n) rfl (fun w' hS => ev_load 3 49 (.pointer (some ⟨w.heap.size + 1, 0, none⟩)) _ rfl (by kernel_rfl) (by simp [go_sem, cell_at (o := 0) hS])) (HS0.out) ?_
 refine lateP 3 (.bool (n == 0)) rfl (fun _ => by kernel_rfl) (fun _ => HS0.out) ?_
 refine late_all [4] (by kernel_rfl) (by simp) (fun jj hjj => ?_)
 obtain rfl := one_of hjj
 refine late_skip rfl rfl (ev_store 99 4 48 (.pointer (some ⟨w.heap.size + 1 + 1, 0, none⟩)) (.agg #[.int .i64 n, .int .i64 x0, .int .i64 x1, .int .i64 x2, .int .i64 x3, .int .i64 x4, .int .i64 x5]) w6 rfl (by kernel_rfl) (by kernel_rfl) r6) ?_
 refine ⟨fun _ => HS1.out, ?_⟩
 refine late_all [5] (by kernel_rfl) (by simp) (fun jj hjj => ?_)
 obtain rfl := one_of hjj
 refine late_op rfl rfl (ev_assign 51 (.bool (n == 0)) rfl (by kernel_rfl)) ?_
 refine ⟨(fun h => Bool.noConfusion (show true = false from h)), ?_⟩
 refine late_done (by kernel_rfl) ?_
 go_wp2_with fail
 exact bodyPost_ret (results_103 _ (w.heap.size + 1 + 1) _ _ _ _ _ _ _ _ HC.out.1 _ (by kernel_rfl) (by kernel_rfl)) (by kernel_rfl) ⟨rfl, HC.out.2⟩
set_option maxRecDepth 100000 in
set_option maxHeartbeats 4000000 in
theorem beh_5 (w : World) (a : Int) (h : List Int) (hl : h.length ≤ 6) : Calls Tryz.prog 97 #[.agg #[.int .i64 5, .int .i64 a], hlV h] w fun e w' => e = .returned (.tuple #[hlV (behP (5, a) h).1, .bool (behP (5, a) h).2]) ∧ Fr no w w' := by
 have hb : behP (5, a) h = (h, !inI a h) := rfl
 obtain ⟨n, x0, x1, x2, x3, x4, x5, hv, hn⟩ := hl_open h
 obtain ⟨W, hW, FW, E0, E1, E2⟩ := boxes3 w 5 a #[.int .i64 n, .int .i64 x0, .int .i64 x1, .int .i64 x2, .int .i64 x3, .int .i64 x4, .int .i64 x5]
 have hD : Fr no W W.drew := (Fr.refl no W).drew
 have HA := heldHas_any W.drew h hl a
 have HE : Hid (_ ∧ _ ∧ _) := ⟨E0, E1, E2⟩
 have HS0 : Hid (W.drew.heap[w.heap.size + 1]? = some (.cells #[.int .i64 n, .int .i64 x0, .int .i64 x1, .int .i64 x2, .int .i64 x3, .int .i64 x4, .int .i64 x5] 99 (0, 0)) ∧ W.drew.heap[w.heap.size]? = some (.cells #[.int .i64 5, .int .i64 a] 27 (0, 0))) := ⟨hD.heap E1 (fun f => f), hD.heap E0 (fun f => f)⟩
 have HW : Hid (Fr no w W.drew) := FW.new hD (fun _ _ f => f)
 have HE2 : Hid (W.drew.heap[w.heap.size + 1 + 1]? = some (.cells #[.int .i64 0, .int .i64 0, .int .i64 0, .int .i64 0, .int .i64 0, .int .i64 0, .int .i64 0] 99 (0, 0))) := hD.heap E2 (fun f => f)
 have z0 := (bx2 E0).1
 rw [hb]
 simp only
 rw [hv] at HA ⊢
 clear E0 E1 E2 FW hv hn hb hD HE hl
 generalize inI a h = bb at *
 go_enter Tryz.func97, Tryz.ntmps97
 go_wp2_with fail
 refine late_begin (S := fun w' => w'.heap[w.heap.size + 1]? = some (.cells #[.int .i64 n, .int .i64 x0, .int .i64 x1, .int .i64 x2, .int .i64 x3, .int .i64 x4, .int .i64 x5] 99 (0, 0)) ∧ w'.heap[w.heap.size]? = some (.cells #[.int .i64 5, .int .i64 a] 27 (0, 0))) (g := 7) (by kernel_rfl) ?_
 refine lateT 0 (.agg #[.int .i64 n, .int .i64 x0, .int .i64 x1, .int .i64 x2, .int .i64 x3, .int .i64 x4, .int .i64 x5]) rfl (fun w' hS => ev_load 99 3 (.pointer (some ⟨w.heap.size + 1, 0, none⟩)) _ rfl (by kernel_rfl) (load_row w' (w.heap.size + 1) 99 _ _ hS.1 Tryz.underlying99 rfl (by kernel_rfl))) (HS0.out) ?_
 refine lateT 1 (.agg #[.int .i64 n, .int .i64 x0, .int .i64 x1, .int .i64 x2, .int .i64 x3, .int .i64 x4, .int .i64 x5]) rfl (fun w' hS => ev_load 99 3 (.pointer (some ⟨w.heap.size + 1, 0, none⟩)) _ rfl (by kernel_rfl) (load_row w' (w.heap.size + 1) 99 _ _ hS.1 Tryz.underlying99 rfl (by kernel_rfl))) (HS0.out) ?_
 refine lateP 2 (ptr w.heap.size 1) rfl (fun _ => ev_field 27 2 1 (ptr w.heap.size 0) _ rfl (by kernel_rfl) (by kernel_rfl)) (fun _ => HS0.out) ?_
 refine lateT 3 (.int .i64 a) rfl (fun w' hS => ev_load 3 41 (ptr w.heap.size 1) _ rfl (by kernel_rfl) (by simp [go_sem, cell_at (o := 1) hS.2])) (HS0.out) ?_
 refine late_all [4] (by kernel_rfl) (by simp) (fun jj hjj => ?_)
 obtain rfl := one_of hjj
 refine late_call (f := 119) rfl rfl (by kernel_rfl) (R := fun v w' => v = .bool bb ∧ Fr no W.drew w') (HA.mono (fun e w' ⟨h1, h2⟩ => ⟨_, h1, rfl, h2⟩)) (fun v w5 hv => ?_)
 obtain ⟨rfl, f5⟩ := hv
 have hs5 : w5.heap[w.heap.size + 1]? = some (.cells #[.int .i64 n, .int .i64 x0, .int .i64 x1, .int .i64 x2, .int .i64 x3, .int .i64 x4, .int .i64 x5] 99 (0, 0)) ∧ w5.heap[w.heap.size]? = some (.cells #[.int .i64 5, .int .i64 a] 27 (0, 0)) := ⟨f5.heap HS0.out.1 (fun f => f), f5.heap HS0.out.2 (fun f => f)⟩
 obtain ⟨w6, r6, h6, F6⟩ := store_mid w5 (w.heap.size + 1 + 1) 0 99 99 #[.int .i64 0, .int .i64 0, .int .i64 0, .int .i64 0, .int .i64 0, .int .i64 0, .int .i64 0] #[.int .i64 n, .int .i64 x0, .int .i64 x1, .int .i64 x2, .int .i64 x3, .int .i64 x4, .int .i64 x5] (f5.heap HE2.out (fun f => f)) (by simp) (by kernel_rfl) (by kernel_rfl)
 have hs6 : w6.heap[w.heap.size + 1]? = some (.cells #[.int .i64 n, .int .i64 x0, .int .i64 x1, .int .i64 x2, .int .i64 x3, .int .i64 x4, .int .i64 x5] 99 (0, 0)) ∧ w6.heap[w.heap.size]? = some (.cells #[.int .i64 5, .int .i64 a] 27 (0, 0)) := ⟨F6.heap hs5.1 (fun e => by omega), F6.heap hs5.2 (fun e => by omega)⟩
 have HC : Hid (w6.heap[w.heap.size + 1 + 1]? = some (.cells #[.int .i64 n, .int .i64 x0, .int .i64 x1, .int .i64 x2, .int .i64 x3, .int .i64 x4, .int .i64 x5] 99 (0, 0)) ∧ Fr no w w6) := ⟨h6, (HW.out.new f5 (fun _ _ f => f)).new F6 (fun i hi e => by omega)⟩
 refine ⟨fun _ => hs5, ?_⟩
 refine lateP 5 (.bool (!bb)) rfl (fun _ => by kernel_rfl) (fun _ => hs5) ?_
 refine late_all [6] (by kernel_rfl) (by simp) (fun jj hjj => ?_)
 obtain rfl := one_of hjj
 refine late_skip rfl rfl (ev_store 99 4 39 (.pointer (some ⟨w.heap.size + 1 + 1, 0, none⟩)) (.agg #[.int .i64 n, .int .i64 x0, .int .i64 x1, .int .i64 x2, .int .i64 x3, .int .i64 x4, .int .i64 x5]) w6 rfl (by kernel_rfl) (by kernel_rfl) r6) ?_
 refine ⟨fun _ => hs6, ?_⟩
 refine late_all [7] (by kernel_rfl) (by simp) (fun jj hjj => ?_)
 obtain rfl := one_of hjj
 refine late_op rfl rfl (ev_assign 44 (.bool (!bb)) rfl (by kernel_rfl)) ?_
 refine ⟨(fun h => Bool.noConfusion (show true = false from h)), ?_⟩
 refine late_done (by kernel_rfl) ?_
 go_wp2_with fail
 exact bodyPost_ret (results_103 _ (w.heap.size + 1 + 1) _ _ _ _ _ _ _ _ HC.out.1 _ (by kernel_rfl) (by kernel_rfl)) (by kernel_rfl) ⟨rfl, HC.out.2⟩
theorem behind_any (w : World) (ins : Int × Int) (h : List Int) (hl : h.length ≤ 6) :
 Calls Tryz.prog 97 #[.agg #[.int .i64 ins.1, .int .i64 ins.2], hlV h] w fun e w' => e = .returned (.tuple #[hlV (behP ins h).1, .bool (behP ins h).2]) ∧ Fr no w w' := by
 obtain ⟨op, a⟩ := ins
 by_cases h38 : op = 38
 · subst h38; exact beh_38 w a h hl
 by_cases h39 : op = 39
 · subst h39; exact beh_39 w a h hl
 by_cases h5 : op = 5
 · subst h5; exact beh_5 w a h hl
 by_cases h33 : op = 33
 · subst h33; exact beh_33 w a h
 by_cases h34 : op = 34
 · subst h34; exact beh_34 w a h
 exact beh_plain w op a h h38 h39 h5 h33 h34
theorem behP_len (ins : Int × Int) (h : List Int) (hl : h.length ≤ 6) : (behP ins h).1.length ≤ 6 := by
 unfold behP
 split
 · split
   · exact hl
   · rename_i hx
     have : ¬ h.length = 6 := fun e => hx (.inr e)
     simp; omega
 · split
   · split
     · simp; omega
     · exact hl
   · split
     · exact hl
     · split <;> exact hl
end Go.Proofs.YtalgjpmaafooeaaGreatDoor
/- The walk along a method's locks, in memory: no handlers. -/
namespace Go.Proofs.YtalgjpmaafooeaaGreatDoor
open Go.ChangeShapes Go.WideShapes Go.ChangeAt Go.RowKit
open H (ix NewV)
structure Wk where
 A : List (List Int)
 R : List Bool
 W : List Int
def Tw (f S C c : Nat) : Nat → Prop := fun b => b = f ∨ b = S ∨ b = C ∨ c ≤ b
def comeP (at' : Nat) (h : List Int) (s : Wk) : Bool × Wk :=
 if s.R.getD at' false = true then (decide (s.A.getD at' [] = h), s) else (true, ⟨s.A.set at' h, s.R.set at' true, s.W ++ [(at' : Int)]⟩)
theorem hlV_eq {h k : List Int} (hh : h.length ≤ 6) (hk : k.length ≤ 6) : hlC h = hlC k ↔ h = k := by
 constructor
 · intro e
   simp only [hlC, List.cons.injEq, Value.int.injEq, true_and, and_true] at e
   obtain ⟨e0, e1, e2, e3, e4, e5, e6⟩ := e
   have hl : h.length = k.length := by omega
   apply List.ext_getElem? 
   intro i
   by_cases hi : i < h.length
   · have hi' : i < k.length := by omega
     have g : h.getD i 0 = k.getD i 0 := by
      obtain rfl | rfl | rfl | rfl | rfl | rfl : i = 0 ∨ i = 1 ∨ i = 2 ∨ i = 3 ∨ i = 4 ∨ i = 5 := by omega
      all_goals assumption
     rw [List.getD_eq_getElem?_getD, List.getD_eq_getElem?_getD, List.getElem?_eq_getElem hi, List.getElem?_eq_getElem hi'] at g
     rw [List.getElem?_eq_getElem hi, List.getElem?_eq_getElem hi']
     simpa using g
   · rw [List.getElem?_eq_none (by omega), List.getElem?_eq_none (by omega)]
 · rintro rfl; rfl
set_option maxRecDepth 100000 in
set_option maxHeartbeats 2000000 in
theorem handleW_any (w : World) (f S n i : Nat) (hi : i < n) (q : Option Addr) (cc : Nat) (h7 : w.cell? ⟨f, 7, none⟩ = some (.slice q 0 cc)) (h8 : w.cell? ⟨f, 8, none⟩ = some (.slice (some ⟨S, 0, none⟩) n n))
 (x0 x1 x2 x3 x4 x5 x6 : Int) (c0 : w.cell? ⟨S, i * 7, none⟩ = some (.int .i64 x0)) (c1 : w.cell? ⟨S, i * 7 + 1, none⟩ = some (.int .i64 x1)) (c2 : w.cell? ⟨S, i * 7 + 2, none⟩ = some (.int .i64 x2)) (c3 : w.cell? ⟨S, i * 7 + 3, none⟩ = some (.int .i64 x3)) (c4 : w.cell? ⟨S, i * 7 + 4, none⟩ = some (.int .i64 x4)) (c5 : w.cell? ⟨S, i * 7 + 5, none⟩ = some (.int .i64 x5)) (c6 : w.cell? ⟨S, i * 7 + 6, none⟩ = some (.int .i64 x6)) :
 Calls Tryz.prog 99 #[.pointer (some ⟨f, 0, none⟩), .int .i64 (i : Int)] w fun e w' => e = .returned (.bool true) ∧ Fr no w w' := by
 have hii : (i : Int) < (n : Int) := by omega
 have F : Fr no w (w.alloc (.cells #[.int .i64 x0, .int .i64 x1, .int .i64 x2, .int .i64 x3, .int .i64 x4, .int .i64 x5, .int .i64 x6] 99)) := (Fr.refl no w).alloc _ _
 have d7 := F.cell h7 (fun f => f)
 have HF : Hid _ := F
 clear F
 generalize hW : w.alloc (.cells #[.int .i64 x0, .int .i64 x1, .int .i64 x2, .int .i64 x3, .int .i64 x4, .int .i64 x5, .int .i64 x6] 99) = W at *
 go_enter Tryz.func99, Tryz.ntmps99
 go_wp2_with fail
 go_loopw [21] (fun i wr => i = .int .i64 0 ∧ wr = W) (fun _ _ => 0)
 case atStart => exact ⟨rfl, rfl⟩
 case round =>
  obtain ⟨rfl, rfl⟩ := hrel
  go_wp2_with fail
  go_ret
  exact ⟨rfl, HF.out⟩
end Go.Proofs.YtalgjpmaafooeaaGreatDoor
/- The locks as a list of one's own. -/
namespace Go.Proofs.YtalgjpmaafooeaaGreatDoor
open Go.ChangeShapes Go.WideShapes Go.ChangeAt Go.RowKit
open H (ix NewV)
theorem elJ_ok : elJ.Ok := ⟨Tryz.underlying25, by kernel_rfl, fun _ => rfl, rfl, by decide⟩
set_option maxRecDepth 100000 in
set_option maxHeartbeats 1000000 in
theorem list_any (w : World) (h : List Int) (hl : h.length ≤ 6) : Calls Tryz.prog 33 #[hlV h] w fun e w' => ∃ v, e = .returned v ∧ H.OwnG elJ w' v h ∧ NewV w v ∧ Fr no w w' := by
 have F : Fr no w (w.alloc (.cells (hlC h).toArray 99)) := (Fr.refl no w).alloc _ _
 have E : (w.alloc (.cells (hlC h).toArray 99)).heap[w.heap.size]? = some (.cells (hlC h).toArray 99 (0, 0)) := heap_alloc_new w _
 have z0 : (w.alloc (.cells (hlC h).toArray 99)).cell? ⟨w.heap.size, 0, none⟩ = some (.int .i64 (h.length : Int)) := cell_at (o := 0) E
 have SJ : H.SlG elJ (w.alloc (.cells (hlC h).toArray 99)) (.slice (some ⟨w.heap.size, 1, none⟩) h.length 6) h := ⟨_, _, rfl, hl, by decide, fun e => by simp at e, fun i y hy => ⟨_, _, rfl, by have := cell_at (o := 1 + i) E; rw [this]; have g := held_get h hl i y hy; simpa [elJ] using g⟩⟩
 have HJ : Hid _ := SJ.src elJ_ok
 have HLN : Hid (h.length ≤ 6) := hl
 have SL := slice_held (w.alloc (.cells (hlC h).toArray 99)) w.heap.size h.length hl
 have HF : Hid (Fr no w (w.alloc (.cells (hlC h).toArray 99))) := F
 unfold hlV
 clear E F SJ hl
 generalize (hlC h).toArray = A at *
 generalize hn : h.length = n at *
 generalize hW : w.alloc (.cells A 99) = W at *
 go_enter Tryz.func33, Tryz.ntmps33
 go_wp2_with (first | (at_builtin; refine H.wpList_apdG elJ_ok _ rfl rfl _ _ rfl (.slice none 0 0) [] rfl (H.OwnG.nil _ _) _ rfl h (by rw [hn]; exact HJ.out) (by rw [hn]; have := HLN.out; simp only [List.length_nil]; omega) ?_; intro v' w2 o2 s2; obtain ⟨q2, c2, hv2⟩ := o2.form; have HO : Hid (H.OwnG elJ w2 v' h ∧ NewV w v' ∧ Fr no w w2) := ⟨o2, (H.NewV.nil w).step HF.out s2⟩; clear o2 s2; rw [List.nil_append, hn] at hv2; subst hv2) | fail)
 go_ret
 exact ⟨_, rfl, HO.out⟩
end Go.Proofs.YtalgjpmaafooeaaGreatDoor
/- A walk as it begins. -/
namespace Go.Proofs.YtalgjpmaafooeaaGreatDoor
open Go.ChangeShapes Go.WideShapes Go.ChangeAt Go.RowKit
open H (ix NewV)
structure WkAt (w0 w : World) (f S C c : Nat) (cd : List (Int × Int)) (s : Wk) : Prop where
 fb : ∃ (a0 a1 a2 a3 a4 a5 cs : Value) (hq : Option Addr) (hc : Nat) (v : Value), w.heap[f]? = some (.cells #[a0, a1, a2, a3, a4, a5, cs, .slice hq 0 hc, .slice (some ⟨S, 0, none⟩) cd.length cd.length, .slice (some ⟨C, 0, none⟩) cd.length cd.length, v] 102 (0, 0)) ∧ SlG elIn w0 cs cd ∧ H.OwnG elJ w v s.W ∧ ∀ g, v.ownBlock = some g → c ≤ g
 A : OwnG elHl w (.slice (some ⟨S, 0, none⟩) cd.length cd.length) s.A
 R : H.OwnG elB w (.slice (some ⟨C, 0, none⟩) cd.length cd.length) s.R
 la : s.A.length = cd.length
 lr : s.R.length = cd.length
 ha : ∀ h ∈ s.A, h.length ≤ 6
 base : Fr no w0 w
 bs : w0.heap.size ≤ f ∧ w0.heap.size ≤ S ∧ w0.heap.size ≤ C ∧ w0.heap.size ≤ c
 lt : f < c ∧ S < c ∧ C < c ∧ f ≠ S ∧ f ≠ C ∧ S ≠ C ∧ c ≤ w.heap.size
 tr : Tr w0
 few : 0 < cd.length ∧ cd.length ≤ 200
def wk0 (n : Nat) : Wk := ⟨List.replicate n [], List.replicate n false, []⟩
set_option maxRecDepth 100000 in
set_option maxHeartbeats 4000000 in
theorem newWalk_any (w : World) (m : Ms) (cd : List (Int × Int)) (hcd : SlG elIn w (.slice m.c.a m.c.n m.c.c) cd) (h0 : 0 < cd.length) (h2 : cd.length ≤ 200) (hh : m.h.n = 0) (tr : Tr w) :
 Calls Tryz.prog 31 #[msV m] w fun e w' => ∃ f S C c, e = .returned (.pointer (some ⟨f, 0, none⟩)) ∧ WkAt w w' f S C c cd (wk0 cd.length) ∧ Fr no w w' := by
 obtain ⟨mn, ⟨pa, pn, pc⟩, ⟨rk, rc⟩, lo, st, ⟨ca, cn', cc⟩, ⟨ha, hn, hc⟩⟩ := m
 simp only at hcd hh
 subst hh
 have HCD : Hid (SlG elIn w (.slice ca cn' cc) cd ∧ Tr w ∧ 0 < cd.length ∧ cd.length ≤ 200) := ⟨hcd, tr, h0, h2⟩
 obtain ⟨ad, cap, hv, -, -, -⟩ := hcd
 simp only [Value.slice.injEq] at hv
 obtain ⟨rfl, rfl, rfl⟩ := hv
 generalize hcl : cd.length = n at *
 unfold msV
 simp only
 generalize hW : w.alloc (.cells #[.string mn, .slice pa pn pc, .int .i64 rk, .string rc, .int .i64 lo, .int .i64 st, .slice ca n cc, .slice ha 0 hc] 47) = W
 have G0 : Fr no w W := by rw [← hW]; exact (Fr.refl no w).alloc _ _
 have E0 : W.heap[w.heap.size]? = some (.cells #[.string mn, .slice pa pn pc, .int .i64 rk, .string rc, .int .i64 lo, .int .i64 st, .slice ca n cc, .slice ha 0 hc] 47 (0, 0)) := by rw [← hW]; exact heap_alloc_new w _
 have hs : W.heap.size = w.heap.size + 1 := by rw [← hW]; exact size_alloc _ _
 have c6 := cell_at (o := 6) E0
 simp at c6
 have HL : Hid (∀ w', Fr no W w' → w'.heap[w.heap.size]? = some (.cells #[.string mn, .slice pa pn pc, .int .i64 rk, .string rc, .int .i64 lo, .int .i64 st, .slice ca n cc, .slice ha 0 hc] 47 (0, 0))) := fun w' hf => hf.heap E0 (fun f => f)
 have HG : Hid (Fr no w W ∧ W.heap.size = w.heap.size + 1) := ⟨G0, hs⟩
 have HS0 : Hid (Fr no W W.drew) := (Fr.refl no W).drew
 clear E0 G0 hs tr h0 h2
 go_enter Tryz.func31, Tryz.ntmps31
 go_wp2_with fail
 refine late_begin (S := fun w' => Fr no W w') (g := 5) (by kernel_rfl) ?_
 refine lateT 0 (.agg #[.string mn, .slice pa pn pc, .int .i64 rk, .string rc, .int .i64 lo, .int .i64 st, .slice ca n cc, .slice ha 0 hc]) rfl (fun w' hS => ev_load 47 1 (ptr w.heap.size 0) _ rfl (by kernel_rfl) (load_row w' w.heap.size 47 _ _ (HL.out w' hS) Tryz.underlying47 rfl (by kernel_rfl))) (HS0.out) ?_
 refine lateP 1 (.int .i64 (n : Int)) rfl (fun _ => ev_move 3 _ rfl (by kernel_rfl)) (fun _ => HS0.out) ?_
 refine lateP 3 (.int .i64 (n : Int)) rfl (fun _ => ev_move 3 _ rfl (by kernel_rfl)) (fun _ => HS0.out) ?_
 have hn1 : n ≤ 1000 := by have := HCD.out.2.2.2; omega
 refine lateN #[true, true, false, true, false, false, false, false] ⟨#[.agg #[.string mn, .slice pa pn pc, .int .i64 rk, .string rc, .int .i64 lo, .int .i64 st, .slice ca n cc, .slice ha 0 hc], ptr w.heap.size 0, .pointer none, .int .i64 (n : Int), ptr w.heap.size 6, .slice ca n cc, .int .i64 (n : Int), .agg #[.string mn, .slice pa pn pc, .int .i64 rk, .string rc, .int .i64 lo, .int .i64 st, .slice ca n cc, .slice ha 0 hc], .int .i64 (n : Int), undef, .int .i64 (n : Int), undef, undef, undef], []⟩ ?_
 refine late_all [2, 4] (by kernel_rfl) (by simp) (fun jj hjj => ?_)
 replace hjj := two_of hjj
 rcases hjj with rfl | rfl
 · refine late_op rfl rfl (ev_make 100 8 (.int .i64 (n : Int)) _ _ rfl (by kernel_rfl) (run_made okHl W.drew n hn1)) ?_
   have oA : OwnG elHl (W.drew.alloc (.cells (madeCells elHl.z.cells (n * elHl.n)) elHl.e)) (.slice (some ⟨W.drew.heap.size, 0, none⟩) n n) (List.replicate n []) := own_row okHl W.drew [] (by kernel_rfl) n hn1
   have gX4 : Fr no W.drew (W.drew.alloc (.cells (madeCells elHl.z.cells (n * elHl.n)) elHl.e)) := (Fr.refl no W.drew).alloc _ _
   have sX4 : (W.drew.alloc (.cells (madeCells elHl.z.cells (n * elHl.n)) elHl.e)).heap.size = W.drew.heap.size + 1 := size_alloc _ _
   generalize W.drew.alloc (.cells (madeCells elHl.z.cells (n * elHl.n)) elHl.e) = X4 at *
   have f4 : Fr no W X4 := (HS0.out).new gX4 (fun _ _ f => f)
   refine ⟨fun _ => f4, ?_⟩
   refine lateN #[true, true, true, true, false, false, false, false] ⟨#[.agg #[.string mn, .slice pa pn pc, .int .i64 rk, .string rc, .int .i64 lo, .int .i64 st, .slice ca n cc, .slice ha 0 hc], ptr w.heap.size 0, .pointer none, .int .i64 (n : Int), ptr w.heap.size 6, .slice ca n cc, .int .i64 (n : Int), .agg #[.string mn, .slice pa pn pc, .int .i64 rk, .string rc, .int .i64 lo, .int .i64 st, .slice ca n cc, .slice ha 0 hc], .int .i64 (n : Int), .slice (some ⟨W.drew.heap.size, 0, none⟩) n n, .int .i64 (n : Int), undef, undef, undef], []⟩ ?_
   refine late_all [4] (by kernel_rfl) (by simp) (fun jj hjj => ?_)
   obtain rfl := one_of hjj
   refine late_op rfl rfl (ev_make 56 10 (.int .i64 (n : Int)) _ _ rfl (by kernel_rfl) (run_madeH elB_ok X4 n hn1)) ?_
   have oR : H.OwnG elB (X4.alloc (.cells (madeCells elB.z.cells (n * 1)) elB.e)) (.slice (some ⟨X4.heap.size, 0, none⟩) n n) (List.replicate n false) := own_rowH elB_ok X4 false (by kernel_rfl) n hn1
   have gX5 : Fr no X4 (X4.alloc (.cells (madeCells elB.z.cells (n * 1)) elB.e)) := (Fr.refl no X4).alloc _ _
   have sX5 : (X4.alloc (.cells (madeCells elB.z.cells (n * 1)) elB.e)).heap.size = X4.heap.size + 1 := size_alloc _ _
   generalize X4.alloc (.cells (madeCells elB.z.cells (n * 1)) elB.e) = X5 at *
   have f5 : Fr no W X5 := (f4).new gX5 (fun _ _ f => f)
   refine ⟨fun _ => f5, ?_⟩
   refine lateN #[true, true, true, true, true, false, false, false] ⟨#[.agg #[.string mn, .slice pa pn pc, .int .i64 rk, .string rc, .int .i64 lo, .int .i64 st, .slice ca n cc, .slice ha 0 hc], ptr w.heap.size 0, .pointer none, .int .i64 (n : Int), ptr w.heap.size 6, .slice ca n cc, .int .i64 (n : Int), .agg #[.string mn, .slice pa pn pc, .int .i64 rk, .string rc, .int .i64 lo, .int .i64 st, .slice ca n cc, .slice ha 0 hc], .int .i64 (n : Int), .slice (some ⟨W.drew.heap.size, 0, none⟩) n n, .int .i64 (n : Int), .slice (some ⟨X4.heap.size, 0, none⟩) n n, undef, undef], []⟩ ?_
   replace oA := oA.keep gX5
   refine late_all [5] (by kernel_rfl) (by simp) (fun jj hjj => ?_)
   obtain rfl := one_of hjj
   refine late_op rfl rfl (show _ = Result.ok (Next.value (.agg #[.string mn, .slice pa pn pc, .int .i64 rk, .string rc, .int .i64 lo, .int .i64 st, .slice ca n cc, .slice ha 0 hc, .slice (some ⟨W.drew.heap.size, 0, none⟩) n n, .slice (some ⟨X4.heap.size, 0, none⟩) n n, .slice none 0 0])) X5 by kernel_rfl) ?_
   refine ⟨(fun h => Bool.noConfusion (show true = false from h)), ?_⟩
   refine lateN #[true, true, true, true, true, true, false, false] ⟨#[.agg #[.string mn, .slice pa pn pc, .int .i64 rk, .string rc, .int .i64 lo, .int .i64 st, .slice ca n cc, .slice ha 0 hc], ptr w.heap.size 0, .pointer none, .int .i64 (n : Int), ptr w.heap.size 6, .slice ca n cc, .int .i64 (n : Int), .agg #[.string mn, .slice pa pn pc, .int .i64 rk, .string rc, .int .i64 lo, .int .i64 st, .slice ca n cc, .slice ha 0 hc], .int .i64 (n : Int), .slice (some ⟨W.drew.heap.size, 0, none⟩) n n, .int .i64 (n : Int), .slice (some ⟨X4.heap.size, 0, none⟩) n n, .agg #[.string mn, .slice pa pn pc, .int .i64 rk, .string rc, .int .i64 lo, .int .i64 st, .slice ca n cc, .slice ha 0 hc, .slice (some ⟨W.drew.heap.size, 0, none⟩) n n, .slice (some ⟨X4.heap.size, 0, none⟩) n n, .slice none 0 0], undef], []⟩ ?_
   refine late_all [6] (by kernel_rfl) (by simp) (fun jj hjj => ?_)
   obtain rfl := one_of hjj
   refine late_op rfl rfl (show _ = Result.ok (Next.value (ptr X5.heap.size 0)) (X5.alloc (.cells #[.string mn, .slice pa pn pc, .int .i64 rk, .string rc, .int .i64 lo, .int .i64 st, .slice ca n cc, .slice ha 0 hc, .slice (some ⟨W.drew.heap.size, 0, none⟩) n n, .slice (some ⟨X4.heap.size, 0, none⟩) n n, .slice none 0 0] 102)) by kernel_rfl) ?_
   refine ⟨(fun h => Bool.noConfusion (show true = false from h)), ?_⟩
   refine late_all [7] (by kernel_rfl) (by simp) (fun jj hjj => ?_)
   obtain rfl := one_of hjj
   refine late_op rfl rfl (ev_assign 13 (ptr X5.heap.size 0) rfl (by kernel_rfl)) ?_
   refine ⟨(fun h => Bool.noConfusion (show true = false from h)), ?_⟩
   refine late_done (by kernel_rfl) ?_
   have gF : Fr no X5 (X5.alloc (.cells #[.string mn, .slice pa pn pc, .int .i64 rk, .string rc, .int .i64 lo, .int .i64 st, .slice ca n cc, .slice ha 0 hc, .slice (some ⟨W.drew.heap.size, 0, none⟩) n n, .slice (some ⟨X4.heap.size, 0, none⟩) n n, .slice none 0 0] 102)) := (Fr.refl no X5).alloc _ _
   have eF : (X5.alloc (.cells #[.string mn, .slice pa pn pc, .int .i64 rk, .string rc, .int .i64 lo, .int .i64 st, .slice ca n cc, .slice ha 0 hc, .slice (some ⟨W.drew.heap.size, 0, none⟩) n n, .slice (some ⟨X4.heap.size, 0, none⟩) n n, .slice none 0 0] 102)).heap[X5.heap.size]? = some (.cells #[.string mn, .slice pa pn pc, .int .i64 rk, .string rc, .int .i64 lo, .int .i64 st, .slice ca n cc, .slice ha 0 hc, .slice (some ⟨W.drew.heap.size, 0, none⟩) n n, .slice (some ⟨X4.heap.size, 0, none⟩) n n, .slice none 0 0] 102 (0, 0)) := heap_alloc_new X5 _
   have sF : (X5.alloc (.cells #[.string mn, .slice pa pn pc, .int .i64 rk, .string rc, .int .i64 lo, .int .i64 st, .slice ca n cc, .slice ha 0 hc, .slice (some ⟨W.drew.heap.size, 0, none⟩) n n, .slice (some ⟨X4.heap.size, 0, none⟩) n n, .slice none 0 0] 102)).heap.size = X5.heap.size + 1 := size_alloc _ _
   have HZ : Hid (WkAt w (X5.alloc (.cells #[.string mn, .slice pa pn pc, .int .i64 rk, .string rc, .int .i64 lo, .int .i64 st, .slice ca n cc, .slice ha 0 hc, .slice (some ⟨W.drew.heap.size, 0, none⟩) n n, .slice (some ⟨X4.heap.size, 0, none⟩) n n, .slice none 0 0] 102)) X5.heap.size W.drew.heap.size X4.heap.size (X5.heap.size + 1) cd (wk0 n) ∧ Fr no w (X5.alloc (.cells #[.string mn, .slice pa pn pc, .int .i64 rk, .string rc, .int .i64 lo, .int .i64 st, .slice ca n cc, .slice ha 0 hc, .slice (some ⟨W.drew.heap.size, 0, none⟩) n n, .slice (some ⟨X4.heap.size, 0, none⟩) n n, .slice none 0 0] 102))) := by
    have fw : Fr no w (X5.alloc (.cells #[.string mn, .slice pa pn pc, .int .i64 rk, .string rc, .int .i64 lo, .int .i64 st, .slice ca n cc, .slice ha 0 hc, .slice (some ⟨W.drew.heap.size, 0, none⟩) n n, .slice (some ⟨X4.heap.size, 0, none⟩) n n, .slice none 0 0] 102)) := (HG.out.1.new (f5) (fun _ _ f => f)).new gF (fun _ _ f => f)
    have hg2 := HG.out.2
    have hsz : W.drew.heap.size = W.heap.size := rfl
    refine ⟨⟨⟨_, _, _, _, _, _, _, _, _, _, by rw [hcl]; exact eF, by rw [← hcl] at HCD ⊢; exact HCD.out.1, H.OwnG.nil _ _, fun g hg => by simp [Value.ownBlock] at hg⟩, by rw [hcl]; exact oA.keep gF, by rw [hcl]; exact oR.keep gF, by simp [wk0, hcl], by simp [wk0, hcl], fun h hm => by obtain rfl := (List.mem_replicate.1 hm).2; decide, fw, by omega, by omega, HCD.out.2.1, by rw [hcl]; exact HCD.out.2.2⟩, fw⟩
   clear gF eF sF
   go_wp2_with fail
   go_ret
   exact ⟨_, _, _, _, rfl, HZ.out⟩
 · refine late_op rfl rfl (ev_make 56 10 (.int .i64 (n : Int)) _ _ rfl (by kernel_rfl) (run_madeH elB_ok W.drew n hn1)) ?_
   have oR : H.OwnG elB (W.drew.alloc (.cells (madeCells elB.z.cells (n * 1)) elB.e)) (.slice (some ⟨W.drew.heap.size, 0, none⟩) n n) (List.replicate n false) := own_rowH elB_ok W.drew false (by kernel_rfl) n hn1
   have gX4 : Fr no W.drew (W.drew.alloc (.cells (madeCells elB.z.cells (n * 1)) elB.e)) := (Fr.refl no W.drew).alloc _ _
   have sX4 : (W.drew.alloc (.cells (madeCells elB.z.cells (n * 1)) elB.e)).heap.size = W.drew.heap.size + 1 := size_alloc _ _
   generalize W.drew.alloc (.cells (madeCells elB.z.cells (n * 1)) elB.e) = X4 at *
   have f4 : Fr no W X4 := (HS0.out).new gX4 (fun _ _ f => f)
   refine ⟨fun _ => f4, ?_⟩
   refine lateN #[true, true, false, true, true, false, false, false] ⟨#[.agg #[.string mn, .slice pa pn pc, .int .i64 rk, .string rc, .int .i64 lo, .int .i64 st, .slice ca n cc, .slice ha 0 hc], ptr w.heap.size 0, .pointer none, .int .i64 (n : Int), ptr w.heap.size 6, .slice ca n cc, .int .i64 (n : Int), .agg #[.string mn, .slice pa pn pc, .int .i64 rk, .string rc, .int .i64 lo, .int .i64 st, .slice ca n cc, .slice ha 0 hc], .int .i64 (n : Int), undef, .int .i64 (n : Int), .slice (some ⟨W.drew.heap.size, 0, none⟩) n n, undef, undef], []⟩ ?_
   refine late_all [2] (by kernel_rfl) (by simp) (fun jj hjj => ?_)
   obtain rfl := one_of hjj
   refine late_op rfl rfl (ev_make 100 8 (.int .i64 (n : Int)) _ _ rfl (by kernel_rfl) (run_made okHl X4 n hn1)) ?_
   have oA : OwnG elHl (X4.alloc (.cells (madeCells elHl.z.cells (n * elHl.n)) elHl.e)) (.slice (some ⟨X4.heap.size, 0, none⟩) n n) (List.replicate n []) := own_row okHl X4 [] (by kernel_rfl) n hn1
   have gX5 : Fr no X4 (X4.alloc (.cells (madeCells elHl.z.cells (n * elHl.n)) elHl.e)) := (Fr.refl no X4).alloc _ _
   have sX5 : (X4.alloc (.cells (madeCells elHl.z.cells (n * elHl.n)) elHl.e)).heap.size = X4.heap.size + 1 := size_alloc _ _
   generalize X4.alloc (.cells (madeCells elHl.z.cells (n * elHl.n)) elHl.e) = X5 at *
   have f5 : Fr no W X5 := (f4).new gX5 (fun _ _ f => f)
   refine ⟨fun _ => f5, ?_⟩
   refine lateN #[true, true, true, true, true, false, false, false] ⟨#[.agg #[.string mn, .slice pa pn pc, .int .i64 rk, .string rc, .int .i64 lo, .int .i64 st, .slice ca n cc, .slice ha 0 hc], ptr w.heap.size 0, .pointer none, .int .i64 (n : Int), ptr w.heap.size 6, .slice ca n cc, .int .i64 (n : Int), .agg #[.string mn, .slice pa pn pc, .int .i64 rk, .string rc, .int .i64 lo, .int .i64 st, .slice ca n cc, .slice ha 0 hc], .int .i64 (n : Int), .slice (some ⟨X4.heap.size, 0, none⟩) n n, .int .i64 (n : Int), .slice (some ⟨W.drew.heap.size, 0, none⟩) n n, undef, undef], []⟩ ?_
   replace oR := oR.keep gX5
   refine late_all [5] (by kernel_rfl) (by simp) (fun jj hjj => ?_)
   obtain rfl := one_of hjj
   refine late_op rfl rfl (show _ = Result.ok (Next.value (.agg #[.string mn, .slice pa pn pc, .int .i64 rk, .string rc, .int .i64 lo, .int .i64 st, .slice ca n cc, .slice ha 0 hc, .slice (some ⟨X4.heap.size, 0, none⟩) n n, .slice (some ⟨W.drew.heap.size, 0, none⟩) n n, .slice none 0 0])) X5 by kernel_rfl) ?_
   refine ⟨(fun h => Bool.noConfusion (show true = false from h)), ?_⟩
   refine lateN #[true, true, true, true, true, true, false, false] ⟨#[.agg #[.string mn, .slice pa pn pc, .int .i64 rk, .string rc, .int .i64 lo, .int .i64 st, .slice ca n cc, .slice ha 0 hc], ptr w.heap.size 0, .pointer none, .int .i64 (n : Int), ptr w.heap.size 6, .slice ca n cc, .int .i64 (n : Int), .agg #[.string mn, .slice pa pn pc, .int .i64 rk, .string rc, .int .i64 lo, .int .i64 st, .slice ca n cc, .slice ha 0 hc], .int .i64 (n : Int), .slice (some ⟨X4.heap.size, 0, none⟩) n n, .int .i64 (n : Int), .slice (some ⟨W.drew.heap.size, 0, none⟩) n n, .agg #[.string mn, .slice pa pn pc, .int .i64 rk, .string rc, .int .i64 lo, .int .i64 st, .slice ca n cc, .slice ha 0 hc, .slice (some ⟨X4.heap.size, 0, none⟩) n n, .slice (some ⟨W.drew.heap.size, 0, none⟩) n n, .slice none 0 0], undef], []⟩ ?_
   refine late_all [6] (by kernel_rfl) (by simp) (fun jj hjj => ?_)
   obtain rfl := one_of hjj
   refine late_op rfl rfl (show _ = Result.ok (Next.value (ptr X5.heap.size 0)) (X5.alloc (.cells #[.string mn, .slice pa pn pc, .int .i64 rk, .string rc, .int .i64 lo, .int .i64 st, .slice ca n cc, .slice ha 0 hc, .slice (some ⟨X4.heap.size, 0, none⟩) n n, .slice (some ⟨W.drew.heap.size, 0, none⟩) n n, .slice none 0 0] 102)) by kernel_rfl) ?_
   refine ⟨(fun h => Bool.noConfusion (show true = false from h)), ?_⟩
   refine late_all [7] (by kernel_rfl) (by simp) (fun jj hjj => ?_)
   obtain rfl := one_of hjj
   refine late_op rfl rfl (ev_assign 13 (ptr X5.heap.size 0) rfl (by kernel_rfl)) ?_
   refine ⟨(fun h => Bool.noConfusion (show true = false from h)), ?_⟩
   refine late_done (by kernel_rfl) ?_
   have gF : Fr no X5 (X5.alloc (.cells #[.string mn, .slice pa pn pc, .int .i64 rk, .string rc, .int .i64 lo, .int .i64 st, .slice ca n cc, .slice ha 0 hc, .slice (some ⟨X4.heap.size, 0, none⟩) n n, .slice (some ⟨W.drew.heap.size, 0, none⟩) n n, .slice none 0 0] 102)) := (Fr.refl no X5).alloc _ _
   have eF : (X5.alloc (.cells #[.string mn, .slice pa pn pc, .int .i64 rk, .string rc, .int .i64 lo, .int .i64 st, .slice ca n cc, .slice ha 0 hc, .slice (some ⟨X4.heap.size, 0, none⟩) n n, .slice (some ⟨W.drew.heap.size, 0, none⟩) n n, .slice none 0 0] 102)).heap[X5.heap.size]? = some (.cells #[.string mn, .slice pa pn pc, .int .i64 rk, .string rc, .int .i64 lo, .int .i64 st, .slice ca n cc, .slice ha 0 hc, .slice (some ⟨X4.heap.size, 0, none⟩) n n, .slice (some ⟨W.drew.heap.size, 0, none⟩) n n, .slice none 0 0] 102 (0, 0)) := heap_alloc_new X5 _
   have sF : (X5.alloc (.cells #[.string mn, .slice pa pn pc, .int .i64 rk, .string rc, .int .i64 lo, .int .i64 st, .slice ca n cc, .slice ha 0 hc, .slice (some ⟨X4.heap.size, 0, none⟩) n n, .slice (some ⟨W.drew.heap.size, 0, none⟩) n n, .slice none 0 0] 102)).heap.size = X5.heap.size + 1 := size_alloc _ _
   have HZ : Hid (WkAt w (X5.alloc (.cells #[.string mn, .slice pa pn pc, .int .i64 rk, .string rc, .int .i64 lo, .int .i64 st, .slice ca n cc, .slice ha 0 hc, .slice (some ⟨X4.heap.size, 0, none⟩) n n, .slice (some ⟨W.drew.heap.size, 0, none⟩) n n, .slice none 0 0] 102)) X5.heap.size X4.heap.size W.drew.heap.size (X5.heap.size + 1) cd (wk0 n) ∧ Fr no w (X5.alloc (.cells #[.string mn, .slice pa pn pc, .int .i64 rk, .string rc, .int .i64 lo, .int .i64 st, .slice ca n cc, .slice ha 0 hc, .slice (some ⟨X4.heap.size, 0, none⟩) n n, .slice (some ⟨W.drew.heap.size, 0, none⟩) n n, .slice none 0 0] 102))) := by
    have fw : Fr no w (X5.alloc (.cells #[.string mn, .slice pa pn pc, .int .i64 rk, .string rc, .int .i64 lo, .int .i64 st, .slice ca n cc, .slice ha 0 hc, .slice (some ⟨X4.heap.size, 0, none⟩) n n, .slice (some ⟨W.drew.heap.size, 0, none⟩) n n, .slice none 0 0] 102)) := (HG.out.1.new (f5) (fun _ _ f => f)).new gF (fun _ _ f => f)
    have hg2 := HG.out.2
    have hsz : W.drew.heap.size = W.heap.size := rfl
    refine ⟨⟨⟨_, _, _, _, _, _, _, _, _, _, by rw [hcl]; exact eF, by rw [← hcl] at HCD ⊢; exact HCD.out.1, H.OwnG.nil _ _, fun g hg => by simp [Value.ownBlock] at hg⟩, by rw [hcl]; exact oA.keep gF, by rw [hcl]; exact oR.keep gF, by simp [wk0, hcl], by simp [wk0, hcl], fun h hm => by obtain rfl := (List.mem_replicate.1 hm).2; decide, fw, by omega, by omega, HCD.out.2.1, by rw [hcl]; exact HCD.out.2.2⟩, fw⟩
   clear gF eF sF
   go_wp2_with fail
   go_ret
   exact ⟨_, _, _, _, rfl, HZ.out⟩
end Go.Proofs.YtalgjpmaafooeaaGreatDoor
