/- The rule of an instruction of a method. -/
import Derived.Test.YtalgjpmaafooeaaGreatDoorKaq
namespace Go.Proofs.YtalgjpmaafooeaaGreatDoor
open Go.ChangeShapes Go.WideShapes Go.ChangeAt Go.RowKit
open H (ix NewV)
theorem results_81 (w : World) (r : Nat) (x0 x1 x2 : Value) (h : w.heap[r]? = some (.cells #[x0, x1, x2] 195 (0, 0))) (tmps : Array Value) (h2 : tmps.getD 8 undef = .pointer (some ⟨r, 0, none⟩)) :
 (results Tryz.f115 tmps).run Tryz.prog w = .ok (.agg #[x0, x1, x2]) w := by
 have hl : (loadVar 195 ⟨r, 0, none⟩).run Tryz.prog w = .ok (.agg #[x0, x1, x2]) w := run_loadVar_row (P := Tryz.prog) w r 195 195 #[x0, x1, x2] (0, 0) _ h Tryz.underlying195 rfl (by kernel_rfl)
 have h2' : tmps[8]?.getD undef = .pointer (some ⟨r, 0, none⟩) := by simpa using h2
 simp [results, asAddr, h2', hl]
theorem plain_ne {op : Int} (h : op ∈ plainOps) : op ≠ 25 ∧ op ≠ 36 ∧ op ≠ 37 ∧ op ≠ 26 ∧ op ≠ 27 ∧ op ≠ 32 ∧ op ≠ 43 ∧ op ≠ 33 ∧ op ≠ 34 := by
 simp only [plainOps, List.mem_cons, List.not_mem_nil, or_false] at h
 omega
set_option maxRecDepth 100000 in
set_option maxHeartbeats 4000000 in
theorem ruleOf_old (w : World) (pv plv : Value) (m : Ms) (op a : Int) (h : op ∈ plainOps ∨ op = 33 ∧ m.ret.k = 0) :
 Calls Tryz.prog 115 #[pv, plv, msV m, .agg #[.int .i64 op, .int .i64 a]] w fun e w' => ∃ ru, e = .returned (ruV ru) ∧ RuAt w' ru (ruleP op) ∧ NewR w ru ∧ Fr no w w' := by
 obtain ⟨mn, ⟨pa, pn, pc⟩, ⟨rk, rc⟩, lo, st, ⟨ca, cn, cc⟩, ⟨ha, hn, hc⟩⟩ := m
 unfold msV
 simp only at h ⊢
 generalize hW1 : w.alloc (.cells #[.string mn, .slice pa pn pc, .int .i64 rk, .string rc, .int .i64 lo, .int .i64 st, .slice ca cn cc, .slice ha hn hc] 47) = W1
 have G1 : Fr no w W1 := by rw [← hW1]; exact (Fr.refl no w).alloc _ _
 have E1 : W1.heap[w.heap.size]? = some (.cells #[.string mn, .slice pa pn pc, .int .i64 rk, .string rc, .int .i64 lo, .int .i64 st, .slice ca cn cc, .slice ha hn hc] 47 (0, 0)) := by rw [← hW1]; exact heap_alloc_new w _
 have s1 : W1.heap.size = w.heap.size + 1 := by rw [← hW1]; exact size_alloc _ _
 generalize hW2 : W1.alloc (.cells #[.int .i64 op, .int .i64 a] 27) = W2
 have G2 : Fr no W1 W2 := by rw [← hW2]; exact (Fr.refl no W1).alloc _ _
 have E2 : W2.heap[w.heap.size + 1]? = some (.cells #[.int .i64 op, .int .i64 a] 27 (0, 0)) := by rw [← hW2, ← s1]; exact heap_alloc_new W1 _
 have s2 : W2.heap.size = w.heap.size + 2 := by rw [← hW2, size_alloc, s1]
 generalize hW3 : W2.alloc (.cells #[.bool false, .slice none 0 0, .slice none 0 0] 195) = W3
 have G3 : Fr no W2 W3 := by rw [← hW3]; exact (Fr.refl no W2).alloc _ _
 have E3 : W3.heap[w.heap.size + 2]? = some (.cells #[.bool false, .slice none 0 0, .slice none 0 0] 195 (0, 0)) := by rw [← hW3, ← s2]; exact heap_alloc_new W2 _
 have z0 := (bx2 (G3.heap E2 (fun f => f))).1
 have r2 := cell_at (o := 2) (G3.heap (G2.heap E1 (fun f => f)) (fun f => f))
 simp only [List.getElem?_toArray, List.getElem?_cons_zero, List.getElem?_cons_succ] at r2
 have FW : Fr no w W3 := (G1.new G2 (fun _ _ f => f)).new G3 (fun _ _ f => f)
 have FW2 : Fr no w W2 := G1.new G2 (fun _ _ f => f)
 rcases h with h | ⟨rfl, rfl⟩
 · obtain ⟨n1, n2, n3, n4, n5, n6, n7, n8, n9⟩ := plain_ne h
   have m1 : (op == 25) = false := by simpa using n1
   have m2 : (op == 36) = false := by simpa using n2
   have m3 : (op == 37) = false := by simpa using n3
   have m4 : (op == 26) = false := by simpa using n4
   have m5 : (op == 27) = false := by simpa using n5
   have m6 : (op == 32) = false := by simpa using n6
   have m7 : (op == 43) = false := by simpa using n7
   have m8 : (op == 33) = false := by simpa using n8
   have m9 : (op == 34) = false := by simpa using n9
   have PL := plain_any W3 op h
   clear h n1 n2 n3 n4 n5 n6 n7 n8 n9 E1 E2 G1 G2 r2
   go_enter Tryz.func115, Tryz.ntmps115
   go_wp2_with fail
   refine PL.mono ?_
   rintro e w4 ⟨⟨nv, ⟨ta, tn, tc⟩, ⟨qa, qn, qc⟩⟩, rfl, hru, hnw, f4⟩
   unfold ruV
   simp only
   have Z7 := f4.heap E3 (fun f => f)
   obtain ⟨v0, v1, v2⟩ := bx3 Z7
   have fzz := fun o => frozen_at (o := o) Z7
   have HC : Hid _ := And.intro (chain3 Z7 (.bool nv) (.slice ta tn tc) (.slice qa qn qc)) (And.intro (frc3 w4 (w.heap.size + 2) (.bool nv) (.slice ta tn tc) (.slice qa qn qc)) hru)
   have HNW : Hid (NewR W3 ⟨nv, ⟨ta, tn, tc⟩, ⟨qa, qn, qc⟩⟩ ∧ W3.heap.size = w.heap.size + 3) := ⟨hnw, by rw [← hW3, size_alloc, s2]⟩
   have HF : Hid (Fr no w W2 ∧ Fr no W2 w4 ∧ W2.heap.size = w.heap.size + 2) := ⟨FW2, G3.new f4 (fun _ _ f => f), s2⟩
   clear Z7 E3 hru f4 PL FW FW2 G3 hnw
   go_wp2_with fail
   refine bodyPost_ret (results_81 _ (w.heap.size + 2) _ _ _ HC.out.1 _ rfl) rfl ?_
   obtain ⟨hN, hz⟩ := HNW.out
   obtain ⟨r1, r2⟩ := ru_fin (w := W2) (HF.out.2.1) HC.out.2.2 (by rw [HF.out.2.2]; exact HC.out.2.1) (fun ad e => by have := hN.1 ad e; have := HF.out.2.2; omega) (fun ad e => by have := hN.2 ad e; have := HF.out.2.2; omega)
   exact ⟨⟨nv, ⟨ta, tn, tc⟩, ⟨qa, qn, qc⟩⟩, rfl, r1, ⟨fun ad e => by have := hN.1 ad e; omega, fun ad e => by have := hN.2 ad e; omega⟩, HF.out.1.new r2 (fun _ _ f => f)⟩
 · obtain ⟨v0, v1, v2⟩ := bx3 E3
   have fzz := fun o => frozen_at (o := o) E3
   have HC : Hid _ := And.intro (chain3 E3 (.bool false) (.slice none 0 0) (.slice none 0 0)) (frc3 W3 (w.heap.size + 2) (.bool false) (.slice none 0 0) (.slice none 0 0))
   have HF : Hid _ := FW
   clear E1 E2 E3 G1 G2 G3 FW FW2
   go_enter Tryz.func115, Tryz.ntmps115
   go_wp2_with fail
   refine bodyPost_ret (results_81 _ (w.heap.size + 2) _ _ _ HC.out.1 _ rfl) rfl ?_
   exact ⟨⟨false, ⟨none, 0, 0⟩, ⟨none, 0, 0⟩⟩, rfl, ⟨rfl, SlG.nil elTy _, SlG.nil elTy _, fun _ => rfl⟩, ⟨fun ad e => by simp at e, fun ad e => by simp at e⟩, HF.out.new HC.out.2 (fun i hi e => by omega)⟩
end Go.Proofs.YtalgjpmaafooeaaGreatDoor
/- Rows that make lays. -/
namespace Go.Proofs.YtalgjpmaafooeaaGreatDoor
open Go.ChangeShapes Go.WideShapes Go.ChangeAt Go.RowKit
open H (ix NewV)
theorem range_mods (z : Array Value) (k : Nat) (hk : z.size = k) : ∀ n, (List.range (n * k)).map (z[· % z.size]!) = (List.replicate n z.toList).flatten
 | 0 => by simp
 | n + 1 => by
  rw [Nat.succ_mul, Nat.add_comm, List.range_add, List.map_append, List.map_map]
  have h1 : (List.range k).map (z[· % z.size]!) = z.toList := by
   apply List.ext_getElem?
   intro i
   rw [List.getElem?_map]
   by_cases hi : i < k
   · rw [List.getElem?_range hi]
     have : i % z.size = i := Nat.mod_eq_of_lt (by omega)
     simp only [Option.map_some, this]
     rw [Array.getElem?_toList, Array.getElem?_eq_getElem (by omega)]
     congr 1
     exact getElem!_pos z i (by omega)
   · rw [List.getElem?_eq_none (by simpa using hi), List.getElem?_eq_none (by simp; omega)]
     rfl
  have h2 : ((fun x => z[x % z.size]!) ∘ fun x => k + x) = (z[· % z.size]!) := by
   funext x
   simp only [Function.comp_apply]
   rw [← hk, Nat.add_mod_left]
  rw [h1, h2, range_mods z k hk n, List.replicate_succ, List.flatten_cons]
theorem made_flat (z : Array Value) (k : Nat) (hk : z.size = k) (n : Nat) : madeCells z (n * k) = ((List.replicate n z.toList).flatten).toArray := by
 unfold madeCells
 apply Array.ext'
 rw [Array.toList_map, Array.toList_range]
 exact range_mods z k hk n
theorem flatMap_rep {α : Type} (f : α → List Value) (x : α) : ∀ n, (List.replicate n x).flatMap f = (List.replicate n (f x)).flatten
 | 0 => rfl
 | n + 1 => by rw [List.replicate_succ, List.flatMap_cons, flatMap_rep f x n, List.replicate_succ, List.flatten_cons]
section
variable {α : Type} {K : El α}
theorem made_rep (hK : K.Ok) (x : α) (hx : K.f x = K.z.cells.toList) (n : Nat) : madeCells K.z.cells (n * K.n) = (cg K (List.replicate n x)).toArray := by
 rw [made_flat _ _ hK.zlen, cg, flatMap_rep, hx]
theorem run_made (hK : K.Ok) (w : World) (n : Nat) (h : n ≤ 1000) : (Instr.makeSlice K.t (.int .i64 (n : Int)) (.int .i64 (n : Int))).run Tryz.prog w = .ok (.slice (some ⟨w.heap.size, 0, none⟩) n n) (w.alloc (.cells (madeCells K.z.cells (n * K.n)) K.e)) := by
 obtain ⟨i0, hi, hz0, hz1, hz2⟩ := info_parts hK.info
 have hb := hK.bs
 have hb2 : K.b * n ≤ 256 * 1000 := Nat.mul_le_mul hb h
 have := _root_.Go.run_make w K.t K.e i0 K.z hK.und hi hz0 .i64 .i64 (n : Int) (n : Int) (by omega) (by omega) (by rw [hz2, ← Int.natCast_mul]; omega) (by omega)
 rw [hz1] at this
 simpa using this
theorem own_row (hK : K.Ok) (w : World) (x : α) (hx : K.f x = K.z.cells.toList) (n : Nat) (h : n ≤ 1000) : OwnG K (w.alloc (.cells (madeCells K.z.cells (n * K.n)) K.e)) (.slice (some ⟨w.heap.size, 0, none⟩) n n) (List.replicate n x) := by
 have := own_heap hK (List.replicate n x) (heap_alloc_new w _) (made_rep hK x hx n) (by rw [List.length_replicate]; exact Nat.le_trans h (by decide))
 rwa [List.length_replicate] at this
end
section
variable {α : Type} {K : H.El α}
theorem run_madeH (hK : K.Ok) (w : World) (n : Nat) (h : n ≤ 1000) : (Instr.makeSlice K.t (.int .i64 (n : Int)) (.int .i64 (n : Int))).run Tryz.prog w = .ok (.slice (some ⟨w.heap.size, 0, none⟩) n n) (w.alloc (.cells (madeCells K.z.cells (n * 1)) K.e)) := by
 obtain ⟨i0, hi, hz0, hz1, hz2⟩ := info_parts hK.info
 have hb := hK.bs
 have hb2 : K.b * n ≤ 16 * 1000 := Nat.mul_le_mul hb h
 have := _root_.Go.run_make w K.t K.e i0 K.z hK.und hi hz0 .i64 .i64 (n : Int) (n : Int) (by omega) (by omega) (by rw [hz2, ← Int.natCast_mul]; omega) (by omega)
 rw [hz1] at this
 simpa using this
theorem own_rowH (hK : K.Ok) (w : World) (x : α) (hx : [K.f x] = K.z.cells.toList) (n : Nat) (h : n ≤ 1000) : H.OwnG K (w.alloc (.cells (madeCells K.z.cells (n * 1)) K.e)) (.slice (some ⟨w.heap.size, 0, none⟩) n n) (List.replicate n x) := by
 have hc : madeCells K.z.cells (n * 1) = (H.cg K (List.replicate n x)).toArray := by
  rw [made_flat _ _ hK.zlen, ← hx]
  unfold H.cg
  congr 1
  clear h
  induction n with
  | zero => rfl
  | succ n ih => rw [List.replicate_succ, List.flatten_cons, ih, List.replicate_succ, List.map_cons]; rfl
 rw [hc]
 refine ⟨by simp [H.cg], .inr ⟨w.heap.size, n, _, by simp, Nat.zero_le _, heap_alloc_new w _, by simp, ?_, by simp [H.cg], ?_⟩⟩
 · exact Nat.le_trans h (by decide)
 · simp [H.cg]
end
end Go.Proofs.YtalgjpmaafooeaaGreatDoor
/- The rule of New. -/
namespace Go.Proofs.YtalgjpmaafooeaaGreatDoor
open Go.ChangeShapes Go.WideShapes Go.ChangeAt Go.RowKit
open H (ix NewV)
theorem results_128 (w : World) (r : Nat) (x0 x1 x2 : Value) (h : w.heap[r]? = some (.cells #[x0, x1, x2] 195 (0, 0))) (tmps : Array Value) (h2 : tmps.getD 4 undef = .pointer (some ⟨r, 0, none⟩)) :
 (results Tryz.f128 tmps).run Tryz.prog w = .ok (.agg #[x0, x1, x2]) w := by
 have hl : (loadVar 195 ⟨r, 0, none⟩).run Tryz.prog w = .ok (.agg #[x0, x1, x2]) w := run_loadVar_row (P := Tryz.prog) w r 195 195 #[x0, x1, x2] (0, 0) _ h Tryz.underlying195 rfl (by kernel_rfl)
 have h2' : tmps[4]?.getD undef = .pointer (some ⟨r, 0, none⟩) := by simpa using h2
 simp [results, asAddr, h2', hl]
set_option maxRecDepth 100000 in
set_option maxHeartbeats 4000000 in
theorem class25 (w : World) (s : ByteArray) : Calls Tryz.prog 128 #[.int .i64 25, .string s] w fun e w' => ∃ ru, e = .returned (ruV ru) ∧ RuAt w' ru ⟨false, [], [⟨4, s⟩]⟩ ∧ NewR w ru ∧ Fr no w w' := by
 generalize hW0 : w.alloc (.cells #[.bool false, .slice none 0 0, .slice none 0 0] 195) = W0
 have G0 : Fr no w W0 := by rw [← hW0]; exact (Fr.refl no w).alloc _ _
 have E0 : W0.heap[w.heap.size]? = some (.cells #[.bool false, .slice none 0 0, .slice none 0 0] 195 (0, 0)) := by rw [← hW0]; exact heap_alloc_new w _
 have hs0 : w.heap.size < W0.heap.size := lt_of_heap E0
 have HG : Hid (Fr no w W0 ∧ w.heap.size < W0.heap.size) := ⟨G0, hs0⟩
 generalize hA1 : W0.alloc (.cells #[.int .i64 4, .string s] 44) = A1
 have GA1 : Fr no W0 A1 := by rw [← hA1]; exact (Fr.refl no W0).alloc _ _
 have EA1 : A1.heap[W0.heap.size]? = some (.cells #[.int .i64 4, .string s] 44 (0, 0)) := by rw [← hA1]; exact heap_alloc_new W0 _
 have y0 := cell_at (o := 0) EA1
 have y1 := cell_at (o := 1) EA1
 simp at y0 y1
 generalize hA2 : A1.alloc (.cells #[.int .i64 4, .string s] 44) = A2
 have GA2 : Fr no A1 A2 := by rw [← hA2]; exact (Fr.refl no A1).alloc _ _
 have sl1 : SlG elTy A2 (.slice (some ⟨A1.heap.size, 0, none⟩) 1 1) [⟨4, s⟩] := by rw [← hA2]; exact (own_lit okTy A1 [⟨4, s⟩] _ rfl (show 1 ≤ maxLen by decide)).sl okTy
 have FF1 : Fr no W0 A2 := GA1.new GA2 (fun _ _ f => f)
 have hg1 := GA1.size
 have Z7 := FF1.heap E0 (fun f => f)
 obtain ⟨v0, v1, v2⟩ := bx3 Z7
 have fzz := fun o => frozen_at (o := o) Z7
 have HC : Hid _ := And.intro (chain3 Z7 (.bool false) (.slice none 0 0) (.slice (some ⟨A1.heap.size, 0, none⟩) 1 1)) (ru_fin (w := w) (ru := ⟨false, ⟨none, 0, 0⟩, ⟨some ⟨A1.heap.size, 0, none⟩, 1, 1⟩⟩) (x := ⟨false, [], [⟨4, s⟩]⟩) (HG.out.1.new FF1 (fun _ _ f => f)) ⟨rfl, SlG.nil elTy _, sl1, fun e => by simp at e⟩ (frc3 A2 w.heap.size (.bool false) (.slice none 0 0) (.slice (some ⟨A1.heap.size, 0, none⟩) 1 1)) (fun ad e => by simp at e) (fun ad e => by simp only [Option.some.injEq] at e; subst e; have := HG.out.2; simp only; omega))
 have HL : Hid (W0.heap.size ≤ A1.heap.size) := hg1
 clear Z7 E0 EA1 G0 GA1 GA2 FF1 sl1 hg1
 go_enter Tryz.func128, Tryz.ntmps128
 go_wp2_with fail
 exact bodyPost_ret (results_128 _ w.heap.size _ _ _ HC.out.1 _ rfl) rfl ⟨⟨false, ⟨none, 0, 0⟩, ⟨some ⟨A1.heap.size, 0, none⟩, 1, 1⟩⟩, rfl, HC.out.2.1, ⟨fun ad e => by simp at e, fun ad e => by simp only [Option.some.injEq] at e; subst e; have := HG.out.2; have := HL.out; simp only; omega⟩, HC.out.2.2⟩
end Go.Proofs.YtalgjpmaafooeaaGreatDoor
/- The rule of an instruction, New of Main too. -/
namespace Go.Proofs.YtalgjpmaafooeaaGreatDoor
open Go.ChangeShapes Go.WideShapes Go.ChangeAt Go.RowKit
open H (ix NewV)
theorem sets3 (c0 c1 c2 x0 x1 x2 : Value) : sets #[c0, c1, c2] 0 [x0, x1, x2] = #[x0, x1, x2] := by rfl
set_option maxRecDepth 100000 in
set_option maxHeartbeats 4000000 in
theorem ruleNew (w : World) (pv plv : Value) (m : Ms) (a : Int) (h : AtMain w plv a) :
 Calls Tryz.prog 115 #[pv, plv, msV m, .agg #[.int .i64 25, .int .i64 a]] w fun e w' => ∃ ru, e = .returned (ruV ru) ∧ RuAt w' ru (ruleP 25) ∧ NewR w ru ∧ Fr no w w' := by
 obtain ⟨mn, ⟨pa, pn, pc⟩, ⟨rk, rc⟩, lo, st, ⟨ca, cn, cc⟩, ⟨ha, hn, hc⟩⟩ := m
 obtain ⟨b, off, n, cap, i, rfl, rfl, hin, hcl⟩ := h
 unfold msV
 simp only
 generalize hW1 : w.alloc (.cells #[.string mn, .slice pa pn pc, .int .i64 rk, .string rc, .int .i64 lo, .int .i64 st, .slice ca cn cc, .slice ha hn hc] 47) = W1
 have G1 : Fr no w W1 := by rw [← hW1]; exact (Fr.refl no w).alloc _ _
 have s1 : W1.heap.size = w.heap.size + 1 := by rw [← hW1]; exact size_alloc _ _
 generalize hW2 : W1.alloc (.cells #[.int .i64 25, .int .i64 (i : Int)] 27) = W2
 have G2 : Fr no W1 W2 := by rw [← hW2]; exact (Fr.refl no W1).alloc _ _
 have E2 : W2.heap[w.heap.size + 1]? = some (.cells #[.int .i64 25, .int .i64 (i : Int)] 27 (0, 0)) := by rw [← hW2, ← s1]; exact heap_alloc_new W1 _
 have s2 : W2.heap.size = w.heap.size + 2 := by rw [← hW2, size_alloc, s1]
 generalize hW3 : W2.alloc (.cells #[.bool false, .slice none 0 0, .slice none 0 0] 195) = W3
 have G3 : Fr no W2 W3 := by rw [← hW3]; exact (Fr.refl no W2).alloc _ _
 have E3 : W3.heap[w.heap.size + 2]? = some (.cells #[.bool false, .slice none 0 0, .slice none 0 0] 195 (0, 0)) := by rw [← hW3, ← s2]; exact heap_alloc_new W2 _
 have FW2 : Fr no w W2 := G1.new G2 (fun _ _ f => f)
 have FW : Fr no w W3 := FW2.new G3 (fun _ _ f => f)
 have z0 := (bx2 (G3.heap E2 (fun f => f))).1
 have HL : Hid (∀ w', Fr no W3 w' → w'.heap[w.heap.size + 1]? = some (.cells #[.int .i64 25, .int .i64 (i : Int)] 27 (0, 0)) ∧ w'.cell? ⟨b, off + i * 5 + 3, none⟩ = some (.string sMain) ∧ w'.heap[w.heap.size + 2]? = some (.cells #[.bool false, .slice none 0 0, .slice none 0 0] 195 (0, 0))) := fun w' hf =>
  ⟨hf.heap (G3.heap E2 (fun f => f)) (fun f => f), hf.cell (FW.cell hcl (fun f => f)) (fun f => f), hf.heap E3 (fun f => f)⟩
 have HS0 : Hid (Fr no W3 W3.drew) := (Fr.refl no W3).drew
 have HF : Hid (Fr no w W2 ∧ Fr no W2 W3 ∧ W2.heap.size = w.heap.size + 2 ∧ W3.heap.size = w.heap.size + 3) := ⟨FW2, G3, s2, by rw [← hW3, size_alloc, s2]⟩
 have hix : (Instr.indexAt 36 (.slice (some ⟨b, off, none⟩) n cap) (.int .i64 (i : Int))).run Tryz.prog W3 = .ok (.pointer (some ⟨b, off + i * 5, none⟩)) W3 := by
  have hin' : (i : Int) < (n : Int) := by omega
  simp [go_sem, hin']
 have HIX : Hid (∀ w', (Instr.indexAt 36 (.slice (some ⟨b, off, none⟩) n cap) (.int .i64 (i : Int))).run Tryz.prog w' = .ok (.pointer (some ⟨b, off + i * 5, none⟩)) w') := fun w' => by
  have hin' : (i : Int) < (n : Int) := by omega
  simp [go_sem, hin']
 clear E2 E3 G1 G2 G3 FW FW2 hcl hix
 go_enter Tryz.func115, Tryz.ntmps115
 go_wp2_with fail
 refine late_begin (S := fun w' => Fr no W3 w') (g := 9) (by kernel_rfl) ?_
 refine lateP 0 (.pointer (some ⟨w.heap.size + 1, 0, none⟩)) rfl (fun _ => ev_field 27 7 0 (.pointer (some ⟨w.heap.size + 1, 0, none⟩)) _ rfl (by kernel_rfl) (by kernel_rfl)) (fun _ => HS0.out) ?_
 refine lateN (true :: false :: false :: false :: false :: false :: false :: false :: false :: false :: []).toArray ⟨(pv :: .slice (some ⟨b, off, none⟩) n cap :: .agg #[.string mn, .slice pa pn pc, .int .i64 rk, .string rc, .int .i64 lo, .int .i64 st, .slice ca cn cc, .slice ha hn hc] :: .agg #[.int .i64 25, .int .i64 (i : Int)] :: undef :: undef :: ptr w.heap.size 0 :: .pointer (some ⟨w.heap.size + 1, 0, none⟩) :: .pointer (some ⟨w.heap.size + 2, 0, none⟩) :: .pointer (some ⟨w.heap.size + 1, 0, none⟩) :: .int .i64 25 :: .bool true :: .bool true :: undef :: undef :: .pointer (some ⟨w.heap.size + 1, 0, none⟩) :: undef :: undef :: undef :: undef :: undef :: undef :: undef :: undef :: undef :: undef :: undef :: undef :: undef :: undef :: undef :: undef :: undef :: undef :: undef :: undef :: undef :: undef :: undef :: undef :: undef :: undef :: undef :: undef :: undef :: undef :: undef :: undef :: undef :: undef :: undef :: undef :: undef :: undef :: undef :: undef :: undef :: undef :: undef :: undef :: undef :: undef :: undef :: undef :: undef :: undef :: undef :: undef :: []).toArray, []⟩ ?_
 refine lateT 1 (.int .i64 25) rfl (fun wz hz => ev_load 3 15 (.pointer (some ⟨w.heap.size + 1, 0, none⟩)) _ rfl (by kernel_rfl) (by simp [go_sem, (bx2 (HL.out wz hz).1).1])) HS0.out ?_
 refine lateN (true :: true :: false :: false :: false :: false :: false :: false :: false :: false :: []).toArray ⟨(pv :: .slice (some ⟨b, off, none⟩) n cap :: .agg #[.string mn, .slice pa pn pc, .int .i64 rk, .string rc, .int .i64 lo, .int .i64 st, .slice ca cn cc, .slice ha hn hc] :: .agg #[.int .i64 25, .int .i64 (i : Int)] :: undef :: undef :: ptr w.heap.size 0 :: .pointer (some ⟨w.heap.size + 1, 0, none⟩) :: .pointer (some ⟨w.heap.size + 2, 0, none⟩) :: .pointer (some ⟨w.heap.size + 1, 0, none⟩) :: .int .i64 25 :: .bool true :: .bool true :: undef :: undef :: .pointer (some ⟨w.heap.size + 1, 0, none⟩) :: .int .i64 25 :: undef :: undef :: undef :: undef :: undef :: undef :: undef :: undef :: undef :: undef :: undef :: undef :: undef :: undef :: undef :: undef :: undef :: undef :: undef :: undef :: undef :: undef :: undef :: undef :: undef :: undef :: undef :: undef :: undef :: undef :: undef :: undef :: undef :: undef :: undef :: undef :: undef :: undef :: undef :: undef :: undef :: undef :: undef :: undef :: undef :: undef :: undef :: undef :: undef :: undef :: undef :: []).toArray, []⟩ ?_
 refine lateP 2 (.slice (some ⟨b, off, none⟩) n cap) rfl (fun _ => ev_move 1 _ rfl (by kernel_rfl)) (fun _ => HS0.out) ?_
 refine lateP 3 (.pointer (some ⟨w.heap.size + 1, 1, none⟩)) rfl (fun _ => ev_field 27 7 1 (.pointer (some ⟨w.heap.size + 1, 0, none⟩)) _ rfl (by kernel_rfl) (by kernel_rfl)) (fun _ => HS0.out) ?_
 refine lateN (true :: true :: true :: true :: false :: false :: false :: false :: false :: false :: []).toArray ⟨(pv :: .slice (some ⟨b, off, none⟩) n cap :: .agg #[.string mn, .slice pa pn pc, .int .i64 rk, .string rc, .int .i64 lo, .int .i64 st, .slice ca cn cc, .slice ha hn hc] :: .agg #[.int .i64 25, .int .i64 (i : Int)] :: undef :: undef :: ptr w.heap.size 0 :: .pointer (some ⟨w.heap.size + 1, 0, none⟩) :: .pointer (some ⟨w.heap.size + 2, 0, none⟩) :: .pointer (some ⟨w.heap.size + 1, 0, none⟩) :: .int .i64 25 :: .bool true :: .bool true :: undef :: undef :: .pointer (some ⟨w.heap.size + 1, 0, none⟩) :: .int .i64 25 :: .slice (some ⟨b, off, none⟩) n cap :: .pointer (some ⟨w.heap.size + 1, 1, none⟩) :: undef :: undef :: undef :: undef :: undef :: undef :: undef :: undef :: undef :: undef :: undef :: undef :: undef :: undef :: undef :: undef :: undef :: undef :: undef :: undef :: undef :: undef :: undef :: undef :: undef :: undef :: undef :: undef :: undef :: undef :: undef :: undef :: undef :: undef :: undef :: undef :: undef :: undef :: undef :: undef :: undef :: undef :: undef :: undef :: undef :: undef :: undef :: undef :: undef :: []).toArray, []⟩ ?_
 refine lateT 4 (.int .i64 (i : Int)) rfl (fun wz hz => ev_load 3 18 (.pointer (some ⟨w.heap.size + 1, 1, none⟩)) _ rfl (by kernel_rfl) (by simp [go_sem, (bx2 (HL.out wz hz).1).2])) HS0.out ?_
 refine lateN (true :: true :: true :: true :: true :: false :: false :: false :: false :: false :: []).toArray ⟨(pv :: .slice (some ⟨b, off, none⟩) n cap :: .agg #[.string mn, .slice pa pn pc, .int .i64 rk, .string rc, .int .i64 lo, .int .i64 st, .slice ca cn cc, .slice ha hn hc] :: .agg #[.int .i64 25, .int .i64 (i : Int)] :: undef :: undef :: ptr w.heap.size 0 :: .pointer (some ⟨w.heap.size + 1, 0, none⟩) :: .pointer (some ⟨w.heap.size + 2, 0, none⟩) :: .pointer (some ⟨w.heap.size + 1, 0, none⟩) :: .int .i64 25 :: .bool true :: .bool true :: undef :: undef :: .pointer (some ⟨w.heap.size + 1, 0, none⟩) :: .int .i64 25 :: .slice (some ⟨b, off, none⟩) n cap :: .pointer (some ⟨w.heap.size + 1, 1, none⟩) :: .int .i64 (i : Int) :: undef :: undef :: undef :: undef :: undef :: undef :: undef :: undef :: undef :: undef :: undef :: undef :: undef :: undef :: undef :: undef :: undef :: undef :: undef :: undef :: undef :: undef :: undef :: undef :: undef :: undef :: undef :: undef :: undef :: undef :: undef :: undef :: undef :: undef :: undef :: undef :: undef :: undef :: undef :: undef :: undef :: undef :: undef :: undef :: undef :: undef :: undef :: undef :: []).toArray, []⟩ ?_
 refine lateP 5 (.pointer (some ⟨b, off + i * 5, none⟩)) rfl (fun wz => ev_index 36 17 19 (.slice (some ⟨b, off, none⟩) n cap) (.int .i64 (i : Int)) _ rfl (by kernel_rfl) (by kernel_rfl) (HIX.out wz)) (fun _ => HS0.out) ?_
 refine lateN (true :: true :: true :: true :: true :: true :: false :: false :: false :: false :: []).toArray ⟨(pv :: .slice (some ⟨b, off, none⟩) n cap :: .agg #[.string mn, .slice pa pn pc, .int .i64 rk, .string rc, .int .i64 lo, .int .i64 st, .slice ca cn cc, .slice ha hn hc] :: .agg #[.int .i64 25, .int .i64 (i : Int)] :: undef :: undef :: ptr w.heap.size 0 :: .pointer (some ⟨w.heap.size + 1, 0, none⟩) :: .pointer (some ⟨w.heap.size + 2, 0, none⟩) :: .pointer (some ⟨w.heap.size + 1, 0, none⟩) :: .int .i64 25 :: .bool true :: .bool true :: undef :: undef :: .pointer (some ⟨w.heap.size + 1, 0, none⟩) :: .int .i64 25 :: .slice (some ⟨b, off, none⟩) n cap :: .pointer (some ⟨w.heap.size + 1, 1, none⟩) :: .int .i64 (i : Int) :: .pointer (some ⟨b, off + i * 5, none⟩) :: undef :: undef :: undef :: undef :: undef :: undef :: undef :: undef :: undef :: undef :: undef :: undef :: undef :: undef :: undef :: undef :: undef :: undef :: undef :: undef :: undef :: undef :: undef :: undef :: undef :: undef :: undef :: undef :: undef :: undef :: undef :: undef :: undef :: undef :: undef :: undef :: undef :: undef :: undef :: undef :: undef :: undef :: undef :: undef :: undef :: undef :: undef :: []).toArray, []⟩ ?_
 refine lateP 6 (.pointer (some ⟨b, off + i * 5 + 3, none⟩)) rfl (fun _ => ev_field 35 20 3 (.pointer (some ⟨b, off + i * 5, none⟩)) _ rfl (by kernel_rfl) (by kernel_rfl)) (fun _ => HS0.out) ?_
 refine lateN (true :: true :: true :: true :: true :: true :: true :: false :: false :: false :: []).toArray ⟨(pv :: .slice (some ⟨b, off, none⟩) n cap :: .agg #[.string mn, .slice pa pn pc, .int .i64 rk, .string rc, .int .i64 lo, .int .i64 st, .slice ca cn cc, .slice ha hn hc] :: .agg #[.int .i64 25, .int .i64 (i : Int)] :: undef :: undef :: ptr w.heap.size 0 :: .pointer (some ⟨w.heap.size + 1, 0, none⟩) :: .pointer (some ⟨w.heap.size + 2, 0, none⟩) :: .pointer (some ⟨w.heap.size + 1, 0, none⟩) :: .int .i64 25 :: .bool true :: .bool true :: undef :: undef :: .pointer (some ⟨w.heap.size + 1, 0, none⟩) :: .int .i64 25 :: .slice (some ⟨b, off, none⟩) n cap :: .pointer (some ⟨w.heap.size + 1, 1, none⟩) :: .int .i64 (i : Int) :: .pointer (some ⟨b, off + i * 5, none⟩) :: .pointer (some ⟨b, off + i * 5 + 3, none⟩) :: undef :: undef :: undef :: undef :: undef :: undef :: undef :: undef :: undef :: undef :: undef :: undef :: undef :: undef :: undef :: undef :: undef :: undef :: undef :: undef :: undef :: undef :: undef :: undef :: undef :: undef :: undef :: undef :: undef :: undef :: undef :: undef :: undef :: undef :: undef :: undef :: undef :: undef :: undef :: undef :: undef :: undef :: undef :: undef :: undef :: undef :: []).toArray, []⟩ ?_
 refine lateT 7 (.string sMain) rfl (fun wz hz => ev_load 9 21 (.pointer (some ⟨b, off + i * 5 + 3, none⟩)) _ rfl (by kernel_rfl) (by simp [go_sem, (HL.out wz hz).2.1])) HS0.out ?_
 refine lateN (true :: true :: true :: true :: true :: true :: true :: true :: false :: false :: []).toArray ⟨(pv :: .slice (some ⟨b, off, none⟩) n cap :: .agg #[.string mn, .slice pa pn pc, .int .i64 rk, .string rc, .int .i64 lo, .int .i64 st, .slice ca cn cc, .slice ha hn hc] :: .agg #[.int .i64 25, .int .i64 (i : Int)] :: undef :: undef :: ptr w.heap.size 0 :: .pointer (some ⟨w.heap.size + 1, 0, none⟩) :: .pointer (some ⟨w.heap.size + 2, 0, none⟩) :: .pointer (some ⟨w.heap.size + 1, 0, none⟩) :: .int .i64 25 :: .bool true :: .bool true :: undef :: undef :: .pointer (some ⟨w.heap.size + 1, 0, none⟩) :: .int .i64 25 :: .slice (some ⟨b, off, none⟩) n cap :: .pointer (some ⟨w.heap.size + 1, 1, none⟩) :: .int .i64 (i : Int) :: .pointer (some ⟨b, off + i * 5, none⟩) :: .pointer (some ⟨b, off + i * 5 + 3, none⟩) :: .string sMain :: undef :: undef :: undef :: undef :: undef :: undef :: undef :: undef :: undef :: undef :: undef :: undef :: undef :: undef :: undef :: undef :: undef :: undef :: undef :: undef :: undef :: undef :: undef :: undef :: undef :: undef :: undef :: undef :: undef :: undef :: undef :: undef :: undef :: undef :: undef :: undef :: undef :: undef :: undef :: undef :: undef :: undef :: undef :: undef :: undef :: []).toArray, []⟩ ?_
 refine late_all [8] (by kernel_rfl) (by simp) (fun jj hjj => ?_)
 simp only [List.mem_singleton] at hjj
 subst hjj
 refine late_call (f := 128) rfl rfl (vals := #[.int .i64 25, .string sMain]) (by kernel_rfl) (R := fun v w' => ∃ ru, v = ruV ru ∧ RuAt w' ru ⟨false, [], [⟨4, sMain⟩]⟩ ∧ NewR W3.drew ru ∧ Fr no W3.drew w') ((class25 W3.drew sMain).mono (fun e w' ⟨ru, h1, h2⟩ => ⟨_, h1, ru, rfl, h2⟩)) (fun v w4 hv => ?_)
 obtain ⟨⟨nv, ⟨ta, tn, tc⟩, ⟨qa, qn, qc⟩⟩, rfl, hru, hnw, f4⟩ := hv
 have g4 : Fr no W3 w4 := HS0.out.new f4 (fun _ _ f => f)
 refine ⟨fun _ => g4, ?_⟩
 refine lateN (true :: true :: true :: true :: true :: true :: true :: true :: true :: false :: []).toArray ⟨(pv :: .slice (some ⟨b, off, none⟩) n cap :: .agg #[.string mn, .slice pa pn pc, .int .i64 rk, .string rc, .int .i64 lo, .int .i64 st, .slice ca cn cc, .slice ha hn hc] :: .agg #[.int .i64 25, .int .i64 (i : Int)] :: undef :: undef :: ptr w.heap.size 0 :: .pointer (some ⟨w.heap.size + 1, 0, none⟩) :: .pointer (some ⟨w.heap.size + 2, 0, none⟩) :: .pointer (some ⟨w.heap.size + 1, 0, none⟩) :: .int .i64 25 :: .bool true :: .bool true :: undef :: undef :: .pointer (some ⟨w.heap.size + 1, 0, none⟩) :: .int .i64 25 :: .slice (some ⟨b, off, none⟩) n cap :: .pointer (some ⟨w.heap.size + 1, 1, none⟩) :: .int .i64 (i : Int) :: .pointer (some ⟨b, off + i * 5, none⟩) :: .pointer (some ⟨b, off + i * 5 + 3, none⟩) :: .string sMain :: .agg #[.bool nv, .slice ta tn tc, .slice qa qn qc] :: undef :: undef :: undef :: undef :: undef :: undef :: undef :: undef :: undef :: undef :: undef :: undef :: undef :: undef :: undef :: undef :: undef :: undef :: undef :: undef :: undef :: undef :: undef :: undef :: undef :: undef :: undef :: undef :: undef :: undef :: undef :: undef :: undef :: undef :: undef :: undef :: undef :: undef :: undef :: undef :: undef :: undef :: undef :: undef :: []).toArray, []⟩ ?_
 refine late_all [9] (by kernel_rfl) (by simp) (fun jj hjj => ?_)
 simp only [List.mem_singleton] at hjj
 subst hjj
 obtain ⟨w5, r5, h5, F5⟩ := store_mid w4 (w.heap.size + 2) 0 195 195 _ #[.bool nv, .slice ta tn tc, .slice qa qn qc] (HL.out w4 g4).2.2 (by simp) (by kernel_rfl) (by kernel_rfl)
 refine late_skip rfl rfl (ev_store 195 8 23 (.pointer (some ⟨w.heap.size + 2, 0, none⟩)) (.agg #[.bool nv, .slice ta tn tc, .slice qa qn qc]) w5 rfl (by kernel_rfl) (by kernel_rfl) r5) ?_
 refine ⟨(fun h => by simp at h), ?_⟩
 refine lateN (true :: true :: true :: true :: true :: true :: true :: true :: true :: true :: []).toArray ⟨(pv :: .slice (some ⟨b, off, none⟩) n cap :: .agg #[.string mn, .slice pa pn pc, .int .i64 rk, .string rc, .int .i64 lo, .int .i64 st, .slice ca cn cc, .slice ha hn hc] :: .agg #[.int .i64 25, .int .i64 (i : Int)] :: undef :: undef :: ptr w.heap.size 0 :: .pointer (some ⟨w.heap.size + 1, 0, none⟩) :: .pointer (some ⟨w.heap.size + 2, 0, none⟩) :: .pointer (some ⟨w.heap.size + 1, 0, none⟩) :: .int .i64 25 :: .bool true :: .bool true :: undef :: undef :: .pointer (some ⟨w.heap.size + 1, 0, none⟩) :: .int .i64 25 :: .slice (some ⟨b, off, none⟩) n cap :: .pointer (some ⟨w.heap.size + 1, 1, none⟩) :: .int .i64 (i : Int) :: .pointer (some ⟨b, off + i * 5, none⟩) :: .pointer (some ⟨b, off + i * 5 + 3, none⟩) :: .string sMain :: .agg #[.bool nv, .slice ta tn tc, .slice qa qn qc] :: undef :: undef :: undef :: undef :: undef :: undef :: undef :: undef :: undef :: undef :: undef :: undef :: undef :: undef :: undef :: undef :: undef :: undef :: undef :: undef :: undef :: undef :: undef :: undef :: undef :: undef :: undef :: undef :: undef :: undef :: undef :: undef :: undef :: undef :: undef :: undef :: undef :: undef :: undef :: undef :: undef :: undef :: undef :: undef :: []).toArray, []⟩ ?_
 refine late_done (by kernel_rfl) ?_
 rw [sets3] at h5
 have HZ : Hid (_ ∧ _ ∧ _ ∧ _ ∧ _) := ⟨h5, F5, hru, hnw, g4⟩
 clear h5 F5 hru hnw f4 g4 r5 z0
 go_wp2_with fail
 refine bodyPost_ret (results_81 _ (w.heap.size + 2) _ _ _ HZ.out.1 _ rfl) rfl ?_
 obtain ⟨-, F5, hru, hnw, g4⟩ := HZ.out
 obtain ⟨k1, k2, k3, k4⟩ := HF.out
 have hz : W3.drew.heap.size = w.heap.size + 3 := k4
 obtain ⟨r1, r2⟩ := ru_fin (w := W2) (k2.new g4 (fun _ _ f => f)) hru (by rw [k3]; exact F5) (fun ad e => by have := hnw.1 ad e; omega) (fun ad e => by have := hnw.2 ad e; omega)
 exact ⟨⟨nv, ⟨ta, tn, tc⟩, ⟨qa, qn, qc⟩⟩, rfl, r1, ⟨fun ad e => by have := hnw.1 ad e; omega, fun ad e => by have := hnw.2 ad e; omega⟩, k1.new r2 (fun _ _ f => f)⟩
theorem ruleOf_any (w : World) (pv plv : Value) (m : Ms) (op a : Int) (h : op ∈ plainOps ∨ op = 33 ∧ m.ret.k = 0 ∨ op = 25 ∧ AtMain w plv a) :
 Calls Tryz.prog 115 #[pv, plv, msV m, .agg #[.int .i64 op, .int .i64 a]] w fun e w' => ∃ ru, e = .returned (ruV ru) ∧ RuAt w' ru (ruleP op) ∧ NewR w ru ∧ Fr no w w' := by
 rcases h with h | h | ⟨rfl, h⟩
 · exact ruleOf_old w pv plv m op a (.inl h)
 · exact ruleOf_old w pv plv m op a (.inr h)
 · exact ruleNew w pv plv m a h
end Go.Proofs.YtalgjpmaafooeaaGreatDoor
