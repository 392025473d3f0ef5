/- The rule of an instruction of a method. -/
import Derived.Test.YtalgjpmaafooeaaGreatDoorKar
namespace Go.Proofs.YtalgjpmaafooeaaGreatDoor
open Go.ChangeShapes Go.WideShapes Go.ChangeAt Go.RowKit
open H (ix NewV)
theorem results_81 (w : World) (r : Nat) (x0 x1 x2 : Value) (h : w.heap[r]? = some (.cells #[x0, x1, x2] 195 (0, 0))) (tmps : Array Value) (h2 : tmps.getD 8 undef = .pointer (some ⟨r, 0, none⟩)) :
 (results Tryz.f115 tmps).run Tryz.prog w = .ok (.agg #[x0, x1, x2]) w := by
 have hl : (loadVar 195 ⟨r, 0, none⟩).run Tryz.prog w = .ok (.agg #[x0, x1, x2]) w := run_loadVar_row (P := Tryz.prog) w r 195 195 #[x0, x1, x2] (0, 0) _ h Tryz.underlying195 rfl (by kernel_rfl)
 have h2' : tmps[8]?.getD undef = .pointer (some ⟨r, 0, none⟩) := by simpa using h2
 simp [results, asAddr, h2', hl]
theorem plain_ne {op : Int} (h : op ∈ plainOps) : op ≠ 25 ∧ op ≠ 36 ∧ op ≠ 37 ∧ op ≠ 26 ∧ op ≠ 27 ∧ op ≠ 32 ∧ op ≠ 43 ∧ op ≠ 33 ∧ op ≠ 34 := by
 simp only [plainOps, List.mem_cons, List.not_mem_nil, or_false] at h
 omega
set_option maxRecDepth 100000 in
set_option maxHeartbeats 4000000 in
theorem ruleOf_any (w : World) (pv plv : Value) (m : Ms) (op a : Int) (h : op ∈ plainOps ∨ op = 33 ∧ m.ret.k = 0) :
 Calls Tryz.prog 115 #[pv, plv, msV m, .agg #[.int .i64 op, .int .i64 a]] w fun e w' => ∃ ru, e = .returned (ruV ru) ∧ RuAt w' ru (ruleP op) ∧ NewR w ru ∧ Fr no w w' := by
 obtain ⟨mn, ⟨pa, pn, pc⟩, ⟨rk, rc⟩, lo, st, ⟨ca, cn, cc⟩, ⟨ha, hn, hc⟩⟩ := m
 unfold msV
 simp only at h ⊢
 generalize hW1 : w.alloc (.cells #[.string mn, .slice pa pn pc, .int .i64 rk, .string rc, .int .i64 lo, .int .i64 st, .slice ca cn cc, .slice ha hn hc] 47) = W1
 have G1 : Fr no w W1 := by rw [← hW1]; exact (Fr.refl no w).alloc _ _
 have E1 : W1.heap[w.heap.size]? = some (.cells #[.string mn, .slice pa pn pc, .int .i64 rk, .string rc, .int .i64 lo, .int .i64 st, .slice ca cn cc, .slice ha hn hc] 47 (0, 0)) := by rw [← hW1]; exact heap_alloc_new w _
 have s1 : W1.heap.size = w.heap.size + 1 := by rw [← hW1]; exact size_alloc _ _
 generalize hW2 : W1.alloc (.cells #[.int .i64 op, .int .i64 a] 27) = W2
 have G2 : Fr no W1 W2 := by rw [← hW2]; exact (Fr.refl no W1).alloc _ _
 have E2 : W2.heap[w.heap.size + 1]? = some (.cells #[.int .i64 op, .int .i64 a] 27 (0, 0)) := by rw [← hW2, ← s1]; exact heap_alloc_new W1 _
 have s2 : W2.heap.size = w.heap.size + 2 := by rw [← hW2, size_alloc, s1]
 generalize hW3 : W2.alloc (.cells #[.bool false, .slice none 0 0, .slice none 0 0] 195) = W3
 have G3 : Fr no W2 W3 := by rw [← hW3]; exact (Fr.refl no W2).alloc _ _
 have E3 : W3.heap[w.heap.size + 2]? = some (.cells #[.bool false, .slice none 0 0, .slice none 0 0] 195 (0, 0)) := by rw [← hW3, ← s2]; exact heap_alloc_new W2 _
 have z0 := (bx2 (G3.heap E2 (fun f => f))).1
 have r2 := cell_at (o := 2) (G3.heap (G2.heap E1 (fun f => f)) (fun f => f))
 simp only [List.getElem?_toArray, List.getElem?_cons_zero, List.getElem?_cons_succ] at r2
 have FW : Fr no w W3 := (G1.new G2 (fun _ _ f => f)).new G3 (fun _ _ f => f)
 have FW2 : Fr no w W2 := G1.new G2 (fun _ _ f => f)
 rcases h with h | ⟨rfl, rfl⟩
 · obtain ⟨n1, n2, n3, n4, n5, n6, n7, n8, n9⟩ := plain_ne h
   have m1 : (op == 25) = false := by simpa using n1
   have m2 : (op == 36) = false := by simpa using n2
   have m3 : (op == 37) = false := by simpa using n3
   have m4 : (op == 26) = false := by simpa using n4
   have m5 : (op == 27) = false := by simpa using n5
   have m6 : (op == 32) = false := by simpa using n6
   have m7 : (op == 43) = false := by simpa using n7
   have m8 : (op == 33) = false := by simpa using n8
   have m9 : (op == 34) = false := by simpa using n9
   have PL := plain_any W3 op h
   clear h n1 n2 n3 n4 n5 n6 n7 n8 n9 E1 E2 G1 G2 r2
   go_enter Tryz.func115, Tryz.ntmps115
   go_wp2_with fail
   refine PL.mono ?_
   rintro e w4 ⟨⟨nv, ⟨ta, tn, tc⟩, ⟨qa, qn, qc⟩⟩, rfl, hru, hnw, f4⟩
   unfold ruV
   simp only
   have Z7 := f4.heap E3 (fun f => f)
   obtain ⟨v0, v1, v2⟩ := bx3 Z7
   have fzz := fun o => frozen_at (o := o) Z7
   have HC : Hid _ := And.intro (chain3 Z7 (.bool nv) (.slice ta tn tc) (.slice qa qn qc)) (And.intro (frc3 w4 (w.heap.size + 2) (.bool nv) (.slice ta tn tc) (.slice qa qn qc)) hru)
   have HNW : Hid (NewR W3 ⟨nv, ⟨ta, tn, tc⟩, ⟨qa, qn, qc⟩⟩ ∧ W3.heap.size = w.heap.size + 3) := ⟨hnw, by rw [← hW3, size_alloc, s2]⟩
   have HF : Hid (Fr no w W2 ∧ Fr no W2 w4 ∧ W2.heap.size = w.heap.size + 2) := ⟨FW2, G3.new f4 (fun _ _ f => f), s2⟩
   clear Z7 E3 hru f4 PL FW FW2 G3 hnw
   go_wp2_with fail
   refine bodyPost_ret (results_81 _ (w.heap.size + 2) _ _ _ HC.out.1 _ rfl) rfl ?_
   obtain ⟨hN, hz⟩ := HNW.out
   obtain ⟨r1, r2⟩ := ru_fin (w := W2) (HF.out.2.1) HC.out.2.2 (by rw [HF.out.2.2]; exact HC.out.2.1) (fun ad e => by have := hN.1 ad e; have := HF.out.2.2; omega) (fun ad e => by have := hN.2 ad e; have := HF.out.2.2; omega)
   exact ⟨⟨nv, ⟨ta, tn, tc⟩, ⟨qa, qn, qc⟩⟩, rfl, r1, ⟨fun ad e => by have := hN.1 ad e; omega, fun ad e => by have := hN.2 ad e; omega⟩, HF.out.1.new r2 (fun _ _ f => f)⟩
 · obtain ⟨v0, v1, v2⟩ := bx3 E3
   have fzz := fun o => frozen_at (o := o) E3
   have HC : Hid _ := And.intro (chain3 E3 (.bool false) (.slice none 0 0) (.slice none 0 0)) (frc3 W3 (w.heap.size + 2) (.bool false) (.slice none 0 0) (.slice none 0 0))
   have HF : Hid _ := FW
   clear E1 E2 E3 G1 G2 G3 FW FW2
   go_enter Tryz.func115, Tryz.ntmps115
   go_wp2_with fail
   refine bodyPost_ret (results_81 _ (w.heap.size + 2) _ _ _ HC.out.1 _ rfl) rfl ?_
   exact ⟨⟨false, ⟨none, 0, 0⟩, ⟨none, 0, 0⟩⟩, rfl, ⟨rfl, SlG.nil elTy _, SlG.nil elTy _, fun _ => rfl⟩, ⟨fun ad e => by simp at e, fun ad e => by simp at e⟩, HF.out.new HC.out.2 (fun i hi e => by omega)⟩
end Go.Proofs.YtalgjpmaafooeaaGreatDoor
/- Rows that make lays. -/
namespace Go.Proofs.YtalgjpmaafooeaaGreatDoor
open Go.ChangeShapes Go.WideShapes Go.ChangeAt Go.RowKit
open H (ix NewV)
theorem range_mods (z : Array Value) (k : Nat) (hk : z.size = k) : ∀ n, (List.range (n * k)).map (z[· % z.size]!) = (List.replicate n z.toList).flatten
 | 0 => by simp
 | n + 1 => by
  rw [Nat.succ_mul, Nat.add_comm, List.range_add, List.map_append, List.map_map]
  have h1 : (List.range k).map (z[· % z.size]!) = z.toList := by
   apply List.ext_getElem?
   intro i
   rw [List.getElem?_map]
   by_cases hi : i < k
   · rw [List.getElem?_range hi]
     have : i % z.size = i := Nat.mod_eq_of_lt (by omega)
     simp only [Option.map_some, this]
     rw [Array.getElem?_toList, Array.getElem?_eq_getElem (by omega)]
     congr 1
     exact getElem!_pos z i (by omega)
   · rw [List.getElem?_eq_none (by simpa using hi), List.getElem?_eq_none (by simp; omega)]
     rfl
  have h2 : ((fun x => z[x % z.size]!) ∘ fun x => k + x) = (z[· % z.size]!) := by
   funext x
   simp only [Function.comp_apply]
   rw [← hk, Nat.add_mod_left]
  rw [h1, h2, range_mods z k hk n, List.replicate_succ, List.flatten_cons]
theorem made_flat (z : Array Value) (k : Nat) (hk : z.size = k) (n : Nat) : madeCells z (n * k) = ((List.replicate n z.toList).flatten).toArray := by
 unfold madeCells
 apply Array.ext'
 rw [Array.toList_map, Array.toList_range]
 exact range_mods z k hk n
theorem flatMap_rep {α : Type} (f : α → List Value) (x : α) : ∀ n, (List.replicate n x).flatMap f = (List.replicate n (f x)).flatten
 | 0 => rfl
 | n + 1 => by rw [List.replicate_succ, List.flatMap_cons, flatMap_rep f x n, List.replicate_succ, List.flatten_cons]
section
variable {α : Type} {K : El α}
theorem made_rep (hK : K.Ok) (x : α) (hx : K.f x = K.z.cells.toList) (n : Nat) : madeCells K.z.cells (n * K.n) = (cg K (List.replicate n x)).toArray := by
 rw [made_flat _ _ hK.zlen, cg, flatMap_rep, hx]
theorem run_made (hK : K.Ok) (w : World) (n : Nat) (h : n ≤ 1000) : (Instr.makeSlice K.t (.int .i64 (n : Int)) (.int .i64 (n : Int))).run Tryz.prog w = .ok (.slice (some ⟨w.heap.size, 0, none⟩) n n) (w.alloc (.cells (madeCells K.z.cells (n * K.n)) K.e)) := by
 obtain ⟨i0, hi, hz0, hz1, hz2⟩ := info_parts hK.info
 have hb := hK.bs
 have hb2 : K.b * n ≤ 256 * 1000 := Nat.mul_le_mul hb h
 have := _root_.Go.run_make w K.t K.e i0 K.z hK.und hi hz0 .i64 .i64 (n : Int) (n : Int) (by omega) (by omega) (by rw [hz2, ← Int.natCast_mul]; omega) (by omega)
 rw [hz1] at this
 simpa using this
theorem own_row (hK : K.Ok) (w : World) (x : α) (hx : K.f x = K.z.cells.toList) (n : Nat) (h : n ≤ 1000) : OwnG K (w.alloc (.cells (madeCells K.z.cells (n * K.n)) K.e)) (.slice (some ⟨w.heap.size, 0, none⟩) n n) (List.replicate n x) := by
 have := own_heap hK (List.replicate n x) (heap_alloc_new w _) (made_rep hK x hx n) (by rw [List.length_replicate]; exact Nat.le_trans h (by decide))
 rwa [List.length_replicate] at this
end
section
variable {α : Type} {K : H.El α}
theorem run_madeH (hK : K.Ok) (w : World) (n : Nat) (h : n ≤ 1000) : (Instr.makeSlice K.t (.int .i64 (n : Int)) (.int .i64 (n : Int))).run Tryz.prog w = .ok (.slice (some ⟨w.heap.size, 0, none⟩) n n) (w.alloc (.cells (madeCells K.z.cells (n * 1)) K.e)) := by
 obtain ⟨i0, hi, hz0, hz1, hz2⟩ := info_parts hK.info
 have hb := hK.bs
 have hb2 : K.b * n ≤ 16 * 1000 := Nat.mul_le_mul hb h
 have := _root_.Go.run_make w K.t K.e i0 K.z hK.und hi hz0 .i64 .i64 (n : Int) (n : Int) (by omega) (by omega) (by rw [hz2, ← Int.natCast_mul]; omega) (by omega)
 rw [hz1] at this
 simpa using this
theorem own_rowH (hK : K.Ok) (w : World) (x : α) (hx : [K.f x] = K.z.cells.toList) (n : Nat) (h : n ≤ 1000) : H.OwnG K (w.alloc (.cells (madeCells K.z.cells (n * 1)) K.e)) (.slice (some ⟨w.heap.size, 0, none⟩) n n) (List.replicate n x) := by
 have hc : madeCells K.z.cells (n * 1) = (H.cg K (List.replicate n x)).toArray := by
  rw [made_flat _ _ hK.zlen, ← hx]
  unfold H.cg
  congr 1
  clear h
  induction n with
  | zero => rfl
  | succ n ih => rw [List.replicate_succ, List.flatten_cons, ih, List.replicate_succ, List.map_cons]; rfl
 rw [hc]
 refine ⟨by simp [H.cg], .inr ⟨w.heap.size, n, _, by simp, Nat.zero_le _, heap_alloc_new w _, by simp, ?_, by simp [H.cg], ?_⟩⟩
 · exact Nat.le_trans h (by decide)
 · simp [H.cg]
end
end Go.Proofs.YtalgjpmaafooeaaGreatDoor
/- Seven unset types. -/
namespace Go.Proofs.YtalgjpmaafooeaaGreatDoor
open Go.ChangeShapes Go.WideShapes Go.ChangeAt Go.RowKit
open H (ix NewV)
set_option maxRecDepth 100000 in
theorem mul64_17 (w : World) : Calls Tryz.prog 147 #[.int .u64 1, .int .u64 7] w fun e w' => e = .returned (.tuple #[.int .u64 0, .int .u64 7]) ∧ w' = w := by
 go_enter Tryz.func147, Tryz.ntmps147
 go_wp2_with fail
 go_ret2
 exact ⟨rfl, rfl⟩
set_option maxRecDepth 100000 in
theorem mul_17 (w : World) : Calls Tryz.prog 139 #[.int .u64 1, .int .u64 7] w fun e w' => e = .returned (.tuple #[.int .u64 0, .int .u64 7]) ∧ w' = w := by
 go_enter Tryz.func139, Tryz.ntmps139
 go_wp2_with fail
 refine (mul64_17 w).mono ?_
 rintro e w1 ⟨rfl, rfl⟩
 go_wp2_with fail
 go_ret2
 exact ⟨rfl, rfl⟩
theorem oneT (t : Ty) (k : Nat) : ∀ v ∈ (List.replicate k [Value.int .i64 t.k, .string t.c]).flatten, v.oneCell' = true := by
 intro v hv
 obtain ⟨l, hl, hv⟩ := List.mem_flatten.1 hv
 obtain rfl := (List.mem_replicate.1 hl).2
 simp only [List.mem_cons, List.not_mem_nil, or_false] at hv
 rcases hv with rfl | rfl <;> rfl
theorem lt_of_two {a b x y : Nat} (ha : a = x) (hb : b = y) (h : x < y) : a < b := by omega
theorem cellsOf {w : World} {g : Nat} {cs : List Value} {t : TypeId} (h : w.heap[g]? = some (.cells cs.toArray t (0, 0))) (l : List Value) (k : Nat) (hl : l = (cs.drop k).take l.length) (j : Nat) (v : Value) (hj : l[j]? = some v) : w.cell? (Addr.add ⟨g, k, none⟩ j) = some v := by
 have h1 : (cs.toArray)[k + j]? = some v := by
  rw [hl] at hj
  rw [List.getElem?_take] at hj
  by_cases e : j < l.length
  · rw [if_pos e, List.getElem?_drop] at hj
    simpa using hj
  · rw [if_neg e] at hj; cases hj
 have := cell_at (o := k + j) h
 rw [h1] at this
 rw [Addr.add_lit]
 exact this
set_option maxRecDepth 100000 in
set_option maxHeartbeats 8000000 in
theorem repeat7 (w : World) (g : Nat) (t : Ty) (hg : w.heap[g]? = some (.cells #[.int .i64 t.k, .string t.c] 44 (0, 0))) :
 Calls Tryz.prog 132 #[.slice (some ⟨g, 0, none⟩) 1 1, .int .i64 7] w fun e w' => ∃ v, e = .returned v ∧ OwnG elTy w' v [t, t, t, t, t, t, t] ∧ Fr no w w' := by
 have hmd : (madeCells #[.int .i64 0, .string ⟨#[]⟩] (7 * 2)) = #[Value.int .i64 0, .string ⟨#[]⟩, .int .i64 0, .string ⟨#[]⟩, .int .i64 0, .string ⟨#[]⟩, .int .i64 0, .string ⟨#[]⟩, .int .i64 0, .string ⟨#[]⟩, .int .i64 0, .string ⟨#[]⟩, .int .i64 0, .string ⟨#[]⟩] := by kernel_rfl
 have hmk := run_made okTy w 7 (by decide)
 have hmk2 : (Instr.makeSlice 42 (.int .i64 7) (.int .i64 7)).run Tryz.prog w = .ok (.slice (some ⟨w.heap.size, 0, none⟩) 7 7) (w.alloc (.cells #[.int .i64 0, .string ⟨#[]⟩, .int .i64 0, .string ⟨#[]⟩, .int .i64 0, .string ⟨#[]⟩, .int .i64 0, .string ⟨#[]⟩, .int .i64 0, .string ⟨#[]⟩, .int .i64 0, .string ⟨#[]⟩, .int .i64 0, .string ⟨#[]⟩] 44)) := by
  rw [← hmd]
  exact hmk
 clear hmk
 generalize hW : w.alloc (.cells #[.int .i64 0, .string ⟨#[]⟩, .int .i64 0, .string ⟨#[]⟩, .int .i64 0, .string ⟨#[]⟩, .int .i64 0, .string ⟨#[]⟩, .int .i64 0, .string ⟨#[]⟩, .int .i64 0, .string ⟨#[]⟩, .int .i64 0, .string ⟨#[]⟩] 44) = W0 at *
 have G0 : Fr no w W0 := by rw [← hW]; exact (Fr.refl no w).alloc _ _
 have E0 : W0.heap[w.heap.size]? = some (.cells #[.int .i64 0, .string ⟨#[]⟩, .int .i64 0, .string ⟨#[]⟩, .int .i64 0, .string ⟨#[]⟩, .int .i64 0, .string ⟨#[]⟩, .int .i64 0, .string ⟨#[]⟩, .int .i64 0, .string ⟨#[]⟩, .int .i64 0, .string ⟨#[]⟩] 44 (0, 0)) := by rw [← hW]; exact heap_alloc_new w _
 have hgW := G0.heap hg (fun f => f)
 have hge := Nat.le_refl w.heap.size
 generalize hG : w.heap.size = G at *
 have HC0 : (Builtin.copy_ #[42, 42] 3 #[.slice (some ⟨G, 0, none⟩) 7 7, .slice (some ⟨g, 0, none⟩) 1 1]).run Tryz.prog W0 = .ok (.int .i64 1) (W0.setRow G #[.int .i64 t.k, .string t.c, .int .i64 0, .string ⟨#[]⟩, .int .i64 0, .string ⟨#[]⟩, .int .i64 0, .string ⟨#[]⟩, .int .i64 0, .string ⟨#[]⟩, .int .i64 0, .string ⟨#[]⟩, .int .i64 0, .string ⟨#[]⟩]) := run_copyT W0 G 0 7 7 ⟨g, 0, none⟩ 1 1 _ 44 [.int .i64 t.k, .string t.c] E0 rfl (cellsOf (cs := [.int .i64 t.k, .string t.c]) hgW _ 0 rfl) (by simp) (oneT t 1)
 have E1 : (W0.setRow G #[.int .i64 t.k, .string t.c, .int .i64 0, .string ⟨#[]⟩, .int .i64 0, .string ⟨#[]⟩, .int .i64 0, .string ⟨#[]⟩, .int .i64 0, .string ⟨#[]⟩, .int .i64 0, .string ⟨#[]⟩, .int .i64 0, .string ⟨#[]⟩]).heap[G]? = some (.cells #[.int .i64 t.k, .string t.c, .int .i64 0, .string ⟨#[]⟩, .int .i64 0, .string ⟨#[]⟩, .int .i64 0, .string ⟨#[]⟩, .int .i64 0, .string ⟨#[]⟩, .int .i64 0, .string ⟨#[]⟩, .int .i64 0, .string ⟨#[]⟩] 44 (0, 0)) := setRow_heap W0 G _ _ 44 (0, 0) E0
 have F1 : Fr no w (W0.setRow G #[.int .i64 t.k, .string t.c, .int .i64 0, .string ⟨#[]⟩, .int .i64 0, .string ⟨#[]⟩, .int .i64 0, .string ⟨#[]⟩, .int .i64 0, .string ⟨#[]⟩, .int .i64 0, .string ⟨#[]⟩, .int .i64 0, .string ⟨#[]⟩]) := G0.setRow hG _
 generalize hW1 : W0.setRow G #[.int .i64 t.k, .string t.c, .int .i64 0, .string ⟨#[]⟩, .int .i64 0, .string ⟨#[]⟩, .int .i64 0, .string ⟨#[]⟩, .int .i64 0, .string ⟨#[]⟩, .int .i64 0, .string ⟨#[]⟩, .int .i64 0, .string ⟨#[]⟩] = W1 at *
 have E1d : W1.drew.heap[G]? = _ := E1
 have HC1 : Hid ((Builtin.copy_ #[42, 42] 3 #[.slice (some ⟨G, 2, none⟩) 6 6, .slice (some ⟨G, 0, none⟩) 1 7]).run Tryz.prog W1.drew = .ok (.int .i64 1) (W1.drew.setRow G #[.int .i64 t.k, .string t.c, .int .i64 t.k, .string t.c, .int .i64 0, .string ⟨#[]⟩, .int .i64 0, .string ⟨#[]⟩, .int .i64 0, .string ⟨#[]⟩, .int .i64 0, .string ⟨#[]⟩, .int .i64 0, .string ⟨#[]⟩])) := (run_copyT W1.drew G 2 6 6 ⟨G, 0, none⟩ 1 7 _ 44 [.int .i64 t.k, .string t.c] E1d rfl (cellsOf (cs := [.int .i64 t.k, .string t.c, .int .i64 0, .string ⟨#[]⟩, .int .i64 0, .string ⟨#[]⟩, .int .i64 0, .string ⟨#[]⟩, .int .i64 0, .string ⟨#[]⟩, .int .i64 0, .string ⟨#[]⟩, .int .i64 0, .string ⟨#[]⟩]) E1d _ 0 rfl) (by simp) (oneT t 1))
 have E2 : (W1.drew.setRow G #[.int .i64 t.k, .string t.c, .int .i64 t.k, .string t.c, .int .i64 0, .string ⟨#[]⟩, .int .i64 0, .string ⟨#[]⟩, .int .i64 0, .string ⟨#[]⟩, .int .i64 0, .string ⟨#[]⟩, .int .i64 0, .string ⟨#[]⟩]).heap[G]? = some (.cells #[.int .i64 t.k, .string t.c, .int .i64 t.k, .string t.c, .int .i64 0, .string ⟨#[]⟩, .int .i64 0, .string ⟨#[]⟩, .int .i64 0, .string ⟨#[]⟩, .int .i64 0, .string ⟨#[]⟩, .int .i64 0, .string ⟨#[]⟩] 44 (0, 0)) := setRow_heap W1.drew G _ _ 44 (0, 0) E1d
 have F2 : Fr no w (W1.drew.setRow G #[.int .i64 t.k, .string t.c, .int .i64 t.k, .string t.c, .int .i64 0, .string ⟨#[]⟩, .int .i64 0, .string ⟨#[]⟩, .int .i64 0, .string ⟨#[]⟩, .int .i64 0, .string ⟨#[]⟩, .int .i64 0, .string ⟨#[]⟩]) := F1.drew.setRow hG _
 have HS1 : Hid (Fr no w W1.drew) := F1.drew
 generalize hW2 : W1.drew.setRow G #[.int .i64 t.k, .string t.c, .int .i64 t.k, .string t.c, .int .i64 0, .string ⟨#[]⟩, .int .i64 0, .string ⟨#[]⟩, .int .i64 0, .string ⟨#[]⟩, .int .i64 0, .string ⟨#[]⟩, .int .i64 0, .string ⟨#[]⟩] = W2 at *
 have HT1 : Hid (Fr no w W2) := F2
 have E2d : W2.drew.heap[G]? = _ := E2
 have HC2 : Hid ((Builtin.copy_ #[42, 42] 3 #[.slice (some ⟨G, 4, none⟩) 5 5, .slice (some ⟨G, 0, none⟩) 2 7]).run Tryz.prog W2.drew = .ok (.int .i64 2) (W2.drew.setRow G #[.int .i64 t.k, .string t.c, .int .i64 t.k, .string t.c, .int .i64 t.k, .string t.c, .int .i64 t.k, .string t.c, .int .i64 0, .string ⟨#[]⟩, .int .i64 0, .string ⟨#[]⟩, .int .i64 0, .string ⟨#[]⟩])) := (run_copyT W2.drew G 4 5 5 ⟨G, 0, none⟩ 2 7 _ 44 [.int .i64 t.k, .string t.c, .int .i64 t.k, .string t.c] E2d rfl (cellsOf (cs := [.int .i64 t.k, .string t.c, .int .i64 t.k, .string t.c, .int .i64 0, .string ⟨#[]⟩, .int .i64 0, .string ⟨#[]⟩, .int .i64 0, .string ⟨#[]⟩, .int .i64 0, .string ⟨#[]⟩, .int .i64 0, .string ⟨#[]⟩]) E2d _ 0 rfl) (by simp) (oneT t 2))
 have E4 : (W2.drew.setRow G #[.int .i64 t.k, .string t.c, .int .i64 t.k, .string t.c, .int .i64 t.k, .string t.c, .int .i64 t.k, .string t.c, .int .i64 0, .string ⟨#[]⟩, .int .i64 0, .string ⟨#[]⟩, .int .i64 0, .string ⟨#[]⟩]).heap[G]? = some (.cells #[.int .i64 t.k, .string t.c, .int .i64 t.k, .string t.c, .int .i64 t.k, .string t.c, .int .i64 t.k, .string t.c, .int .i64 0, .string ⟨#[]⟩, .int .i64 0, .string ⟨#[]⟩, .int .i64 0, .string ⟨#[]⟩] 44 (0, 0)) := setRow_heap W2.drew G _ _ 44 (0, 0) E2d
 have F4 : Fr no w (W2.drew.setRow G #[.int .i64 t.k, .string t.c, .int .i64 t.k, .string t.c, .int .i64 t.k, .string t.c, .int .i64 t.k, .string t.c, .int .i64 0, .string ⟨#[]⟩, .int .i64 0, .string ⟨#[]⟩, .int .i64 0, .string ⟨#[]⟩]) := F2.drew.setRow hG _
 have HS2 : Hid (Fr no w W2.drew) := F2.drew
 generalize hW4 : W2.drew.setRow G #[.int .i64 t.k, .string t.c, .int .i64 t.k, .string t.c, .int .i64 t.k, .string t.c, .int .i64 t.k, .string t.c, .int .i64 0, .string ⟨#[]⟩, .int .i64 0, .string ⟨#[]⟩, .int .i64 0, .string ⟨#[]⟩] = W4 at *
 have HT2 : Hid (Fr no w W4) := F4
 have E4d : W4.drew.heap[G]? = _ := E4
 have HC4 : Hid ((Builtin.copy_ #[42, 42] 3 #[.slice (some ⟨G, 8, none⟩) 3 3, .slice (some ⟨G, 0, none⟩) 4 7]).run Tryz.prog W4.drew = .ok (.int .i64 3) (W4.drew.setRow G #[.int .i64 t.k, .string t.c, .int .i64 t.k, .string t.c, .int .i64 t.k, .string t.c, .int .i64 t.k, .string t.c, .int .i64 t.k, .string t.c, .int .i64 t.k, .string t.c, .int .i64 t.k, .string t.c])) := (run_copyT W4.drew G 8 3 3 ⟨G, 0, none⟩ 4 7 _ 44 [.int .i64 t.k, .string t.c, .int .i64 t.k, .string t.c, .int .i64 t.k, .string t.c] E4d rfl (cellsOf (cs := [.int .i64 t.k, .string t.c, .int .i64 t.k, .string t.c, .int .i64 t.k, .string t.c, .int .i64 t.k, .string t.c, .int .i64 0, .string ⟨#[]⟩, .int .i64 0, .string ⟨#[]⟩, .int .i64 0, .string ⟨#[]⟩]) E4d _ 0 rfl) (by simp) (oneT t 3))
 have E7 : (W4.drew.setRow G #[.int .i64 t.k, .string t.c, .int .i64 t.k, .string t.c, .int .i64 t.k, .string t.c, .int .i64 t.k, .string t.c, .int .i64 t.k, .string t.c, .int .i64 t.k, .string t.c, .int .i64 t.k, .string t.c]).heap[G]? = some (.cells #[.int .i64 t.k, .string t.c, .int .i64 t.k, .string t.c, .int .i64 t.k, .string t.c, .int .i64 t.k, .string t.c, .int .i64 t.k, .string t.c, .int .i64 t.k, .string t.c, .int .i64 t.k, .string t.c] 44 (0, 0)) := setRow_heap W4.drew G _ _ 44 (0, 0) E4d
 have F7 : Fr no w (W4.drew.setRow G #[.int .i64 t.k, .string t.c, .int .i64 t.k, .string t.c, .int .i64 t.k, .string t.c, .int .i64 t.k, .string t.c, .int .i64 t.k, .string t.c, .int .i64 t.k, .string t.c, .int .i64 t.k, .string t.c]) := F4.drew.setRow hG _
 have HS4 : Hid (Fr no w W4.drew) := F4.drew
 generalize hW7 : W4.drew.setRow G #[.int .i64 t.k, .string t.c, .int .i64 t.k, .string t.c, .int .i64 t.k, .string t.c, .int .i64 t.k, .string t.c, .int .i64 t.k, .string t.c, .int .i64 t.k, .string t.c, .int .i64 t.k, .string t.c] = W7 at *
 have HT4 : Hid (Fr no w W7) := F7
 have HO : Hid (OwnG elTy W7 (.slice (some ⟨G, 0, none⟩) 7 7) [t, t, t, t, t, t, t] ∧ Fr no w W7) := ⟨own_heap okTy [t, t, t, t, t, t, t] E7 (by rfl) (show 7 ≤ maxLen by decide), F7⟩
 clear E1d E2d E4d E1 E2 E4 E7 F1 F2 F4 F7 E0 hmd hW hW1 hW2 hW4 hW7 hgW
 go_enter Tryz.func132, Tryz.ntmps132
 go_wp2_with fail
 refine (mul_17 w).mono ?_
 rintro e w1 ⟨rfl, rfl⟩
 go_wp2_with fail
 go_loopw [8] (fun i wr => (i = .int .i64 1 ∧ wr = W1) ∨ (i = .int .i64 2 ∧ wr = W2) ∨ (i = .int .i64 4 ∧ wr = W4) ∨ (i = .int .i64 7 ∧ wr = W7)) (fun i _ => 7 - (intOf i).toNat)
 case atStart => exact .inl ⟨rfl, rfl⟩
 case round =>
  rcases hrel with ⟨rfl, rfl⟩ | ⟨rfl, rfl⟩ | ⟨rfl, rfl⟩ | ⟨rfl, rfl⟩
  · go_wp2_with fail
    refine late_begin (S := fun w' => Fr no w1 w') (g := 9) (by kernel_rfl) ?_
    refine lateP 0 (.int .i64 1) rfl (fun _ => ev_move 8 _ rfl (by kernel_rfl)) (fun _ => HS1.out) ?_
    refine lateP 1 (.slice (some ⟨G, 0, none⟩) 7 7) rfl (fun _ => ev_move 7 _ rfl (by kernel_rfl)) (fun _ => HS1.out) ?_
    refine lateP 2 (.int .i64 1) rfl (fun _ => ev_move 8 _ rfl (by kernel_rfl)) (fun _ => HS1.out) ?_
    refine lateP 3 (.slice (some ⟨G, 2, none⟩) 6 6) rfl (fun _ => by kernel_rfl) (fun _ => HS1.out) ?_
    refine lateP 4 (.slice (some ⟨G, 0, none⟩) 7 7) rfl (fun _ => ev_move 7 _ rfl (by kernel_rfl)) (fun _ => HS1.out) ?_
    refine lateP 5 (.int .i64 1) rfl (fun _ => ev_move 8 _ rfl (by kernel_rfl)) (fun _ => HS1.out) ?_
    refine lateP 6 (.slice (some ⟨G, 0, none⟩) 1 7) rfl (fun _ => by kernel_rfl) (fun _ => HS1.out) ?_
    refine late_all [7] (by kernel_rfl) (by simp) (fun jj hjj => ?_)
    obtain rfl := one_of hjj
    refine late_op rfl rfl (ev_copy 42 41 44 _ _ _ _ rfl (by kernel_rfl) (by kernel_rfl) HC1.out) ?_
    refine ⟨fun _ => HT1.out, ?_⟩
    refine lateP 8 (.int .i64 2) rfl (fun _ => by kernel_rfl) (fun _ => HT1.out) ?_
    refine late_all [9] (by kernel_rfl) (by simp) (fun jj hjj => ?_)
    obtain rfl := one_of hjj
    refine late_op rfl rfl (ev_assign 46 (.int .i64 2) rfl (by kernel_rfl)) ?_
    refine ⟨(fun h => Bool.noConfusion (show true = false from h)), ?_⟩
    refine late_done (by kernel_rfl) ?_
    go_wp2_with fail
    refine ⟨⟨.int .i64 2, .int .i64 1, .slice (some ⟨G, 0, none⟩) 7 7, .int .i64 7, .bool true, .int .i64 1, .slice (some ⟨G, 0, none⟩) 7 7, .int .i64 1, .slice (some ⟨G, 2, none⟩) 6 6, .slice (some ⟨G, 0, none⟩) 7 7, .int .i64 1, .slice (some ⟨G, 0, none⟩) 1 7, .int .i64 1, .int .i64 2, .inr (.inl ⟨rfl, trivial⟩), by kernel_rfl⟩, ?_⟩
    exact lt_of_two (by kernel_rfl : _ = 5) (by kernel_rfl : _ = 6) (by decide)
  · go_wp2_with fail
    refine late_begin (S := fun w' => Fr no w1 w') (g := 9) (by kernel_rfl) ?_
    refine lateP 0 (.int .i64 2) rfl (fun _ => ev_move 8 _ rfl (by kernel_rfl)) (fun _ => HS2.out) ?_
    refine lateP 1 (.slice (some ⟨G, 0, none⟩) 7 7) rfl (fun _ => ev_move 7 _ rfl (by kernel_rfl)) (fun _ => HS2.out) ?_
    refine lateP 2 (.int .i64 2) rfl (fun _ => ev_move 8 _ rfl (by kernel_rfl)) (fun _ => HS2.out) ?_
    refine lateP 3 (.slice (some ⟨G, 4, none⟩) 5 5) rfl (fun _ => by kernel_rfl) (fun _ => HS2.out) ?_
    refine lateP 4 (.slice (some ⟨G, 0, none⟩) 7 7) rfl (fun _ => ev_move 7 _ rfl (by kernel_rfl)) (fun _ => HS2.out) ?_
    refine lateP 5 (.int .i64 2) rfl (fun _ => ev_move 8 _ rfl (by kernel_rfl)) (fun _ => HS2.out) ?_
    refine lateP 6 (.slice (some ⟨G, 0, none⟩) 2 7) rfl (fun _ => by kernel_rfl) (fun _ => HS2.out) ?_
    refine late_all [7] (by kernel_rfl) (by simp) (fun jj hjj => ?_)
    obtain rfl := one_of hjj
    refine late_op rfl rfl (ev_copy 42 41 44 _ _ _ _ rfl (by kernel_rfl) (by kernel_rfl) HC2.out) ?_
    refine ⟨fun _ => HT2.out, ?_⟩
    refine lateP 8 (.int .i64 4) rfl (fun _ => by kernel_rfl) (fun _ => HT2.out) ?_
    refine late_all [9] (by kernel_rfl) (by simp) (fun jj hjj => ?_)
    obtain rfl := one_of hjj
    refine late_op rfl rfl (ev_assign 46 (.int .i64 4) rfl (by kernel_rfl)) ?_
    refine ⟨(fun h => Bool.noConfusion (show true = false from h)), ?_⟩
    refine late_done (by kernel_rfl) ?_
    go_wp2_with fail
    refine ⟨⟨.int .i64 4, .int .i64 2, .slice (some ⟨G, 0, none⟩) 7 7, .int .i64 7, .bool true, .int .i64 2, .slice (some ⟨G, 0, none⟩) 7 7, .int .i64 2, .slice (some ⟨G, 4, none⟩) 5 5, .slice (some ⟨G, 0, none⟩) 7 7, .int .i64 2, .slice (some ⟨G, 0, none⟩) 2 7, .int .i64 2, .int .i64 4, .inr (.inr (.inl ⟨rfl, trivial⟩)), by kernel_rfl⟩, ?_⟩
    exact lt_of_two (by kernel_rfl : _ = 3) (by kernel_rfl : _ = 5) (by decide)
  · go_wp2_with fail
    refine late_begin (S := fun w' => Fr no w1 w') (g := 9) (by kernel_rfl) ?_
    refine lateP 0 (.int .i64 4) rfl (fun _ => ev_move 8 _ rfl (by kernel_rfl)) (fun _ => HS4.out) ?_
    refine lateP 1 (.slice (some ⟨G, 0, none⟩) 7 7) rfl (fun _ => ev_move 7 _ rfl (by kernel_rfl)) (fun _ => HS4.out) ?_
    refine lateP 2 (.int .i64 4) rfl (fun _ => ev_move 8 _ rfl (by kernel_rfl)) (fun _ => HS4.out) ?_
    refine lateP 3 (.slice (some ⟨G, 8, none⟩) 3 3) rfl (fun _ => by kernel_rfl) (fun _ => HS4.out) ?_
    refine lateP 4 (.slice (some ⟨G, 0, none⟩) 7 7) rfl (fun _ => ev_move 7 _ rfl (by kernel_rfl)) (fun _ => HS4.out) ?_
    refine lateP 5 (.int .i64 4) rfl (fun _ => ev_move 8 _ rfl (by kernel_rfl)) (fun _ => HS4.out) ?_
    refine lateP 6 (.slice (some ⟨G, 0, none⟩) 4 7) rfl (fun _ => by kernel_rfl) (fun _ => HS4.out) ?_
    refine late_all [7] (by kernel_rfl) (by simp) (fun jj hjj => ?_)
    obtain rfl := one_of hjj
    refine late_op rfl rfl (ev_copy 42 41 44 _ _ _ _ rfl (by kernel_rfl) (by kernel_rfl) HC4.out) ?_
    refine ⟨fun _ => HT4.out, ?_⟩
    refine lateP 8 (.int .i64 7) rfl (fun _ => by kernel_rfl) (fun _ => HT4.out) ?_
    refine late_all [9] (by kernel_rfl) (by simp) (fun jj hjj => ?_)
    obtain rfl := one_of hjj
    refine late_op rfl rfl (ev_assign 46 (.int .i64 7) rfl (by kernel_rfl)) ?_
    refine ⟨(fun h => Bool.noConfusion (show true = false from h)), ?_⟩
    refine late_done (by kernel_rfl) ?_
    go_wp2_with fail
    refine ⟨⟨.int .i64 7, .int .i64 4, .slice (some ⟨G, 0, none⟩) 7 7, .int .i64 7, .bool true, .int .i64 4, .slice (some ⟨G, 0, none⟩) 7 7, .int .i64 4, .slice (some ⟨G, 8, none⟩) 3 3, .slice (some ⟨G, 0, none⟩) 7 7, .int .i64 4, .slice (some ⟨G, 0, none⟩) 4 7, .int .i64 3, .int .i64 7, .inr (.inr (.inr ⟨rfl, trivial⟩)), by kernel_rfl⟩, ?_⟩
    exact lt_of_two (by kernel_rfl : _ = 0) (by kernel_rfl : _ = 3) (by decide)
  · go_wp2_with fail
    go_ret
    exact ⟨_, rfl, HO.out⟩
end Go.Proofs.YtalgjpmaafooeaaGreatDoor
/- Where a method of Main begins. -/
namespace Go.Proofs.YtalgjpmaafooeaaGreatDoor
open Go.ChangeShapes Go.WideShapes Go.ChangeAt Go.RowKit
open H (ix NewV)
theorem src_empty (w : World) (a : Option Addr) (c : Nat) (h : a = none → c = 0) : Src Tryz.prog elTy.n elTy.t (.slice a 0 c) ([] : List Ty).length (cg elTy []) w := by
 cases a with
 | none => obtain rfl := h rfl; exact Src.ofNil _ okTy.und _
 | some a => exact Src.ofSlice _ okTy.und _ _ _ _ rfl (fun j u hj => by simp [cg] at hj) (cg_one okTy _)
theorem results_82 (w : World) (r : Nat) (x0 x1 x2 x3 : Value) (h : w.heap[r]? = some (.cells #[x0, x1, x2, x3] 67 (0, 0))) (tmps : Array Value) (h2 : tmps.getD 4 undef = .pointer (some ⟨r, 0, none⟩)) :
 (results Tryz.f116 tmps).run Tryz.prog w = .ok (.agg #[x0, x1, x2, x3]) w := by
 have hl : (loadVar 67 ⟨r, 0, none⟩).run Tryz.prog w = .ok (.agg #[x0, x1, x2, x3]) w := run_loadVar_row (P := Tryz.prog) w r 67 67 #[x0, x1, x2, x3] (0, 0) _ h Tryz.underlying67 rfl (by kernel_rfl)
 have h2' : tmps[4]?.getD undef = .pointer (some ⟨r, 0, none⟩) := by simpa using h2
 simp [results, asAddr, h2', hl]
set_option maxRecDepth 100000 in
set_option maxHeartbeats 4000000 in
theorem entry_3 (w : World) (cn : ByteArray) (m : Ms) (hp : m.p.n = 0) (hp0 : m.p.a = none → m.p.c = 0) (hlo : m.lo = 3) :
 Calls Tryz.prog 116 #[.string cn, msV m] w fun e w' => ∃ s : Sa, e = .returned (saV s) ∧ s.r = true ∧ s.st = ⟨none, 0, 0⟩ ∧ s.lk = ⟨none, 0, 0⟩ ∧ OwnG elTy w' (.slice s.lo.a s.lo.n s.lo.c) [⟨4, cn⟩, top, top] ∧ NewV w (.slice s.lo.a s.lo.n s.lo.c) ∧ Fr no w w' := by
 obtain ⟨mn, ⟨pa, pn, pc⟩, ⟨rk, rc⟩, lo, st, ⟨ca, cn', cc⟩, ⟨ha, hn, hc⟩⟩ := m
 simp only at hp hp0 hlo
 subst hp hlo
 unfold msV
 simp only
 generalize hW1 : (w.alloc (.cells #[.string mn, .slice pa 0 pc, .int .i64 rk, .string rc, .int .i64 3, .int .i64 st, .slice ca cn' cc, .slice ha hn hc] 47)).alloc (.cells #[.bool false, .slice none 0 0, .slice none 0 0, .slice none 0 0] 67) = W1
 have G0 : Fr no w (w.alloc (.cells #[.string mn, .slice pa 0 pc, .int .i64 rk, .string rc, .int .i64 3, .int .i64 st, .slice ca cn' cc, .slice ha hn hc] 47)) := (Fr.refl no w).alloc _ _
 have G1 : Fr no (w.alloc (.cells #[.string mn, .slice pa 0 pc, .int .i64 rk, .string rc, .int .i64 3, .int .i64 st, .slice ca cn' cc, .slice ha hn hc] 47)) W1 := by rw [← hW1]; exact (Fr.refl no _).alloc _ _
 have E0 : W1.heap[w.heap.size]? = some (.cells #[.string mn, .slice pa 0 pc, .int .i64 rk, .string rc, .int .i64 3, .int .i64 st, .slice ca cn' cc, .slice ha hn hc] 47 (0, 0)) := G1.heap (heap_alloc_new w _) (fun f => f)
 have E1 : W1.heap[w.heap.size + 1]? = some (.cells #[.bool false, .slice none 0 0, .slice none 0 0, .slice none 0 0] 67 (0, 0)) := by rw [← hW1, ← size_alloc w (.cells #[.string mn, .slice pa 0 pc, .int .i64 rk, .string rc, .int .i64 3, .int .i64 st, .slice ca cn' cc, .slice ha hn hc] 47)]; exact heap_alloc_new _ _
 have s1 : W1.heap.size = w.heap.size + 2 := by rw [← hW1, size_alloc, size_alloc]
 have F1 : Fr no w W1 := G0.new G1 (fun _ _ f => f)
 have HO1 : Hid (OwnG elTy (W1.alloc (.cells #[.int .i64 4, .string cn] 44)) (.slice (some ⟨w.heap.size + 2, 0, none⟩) 1 1) [⟨4, cn⟩]) := s1 ▸ own_lit okTy W1 [⟨4, cn⟩] _ (by rfl) (show 1 ≤ maxLen by decide)
 have HP : Hid _ := hp0
 have HF2 : Hid (Fr no W1 (W1.alloc (.cells #[.int .i64 4, .string cn] 44))) := (Fr.refl no W1).alloc _ _
 have c1 := cell_at (o := 1) (HF2.out.heap E0 (fun f => f))
 simp at c1
 have HST : Hid (∀ v' w2, OwnG elTy w2 v' ([⟨4, cn⟩] ++ []) → Sp no (.slice (some ⟨w.heap.size + 2, 0, none⟩) 1 1) (W1.alloc (.cells #[.int .i64 4, .string cn] 44)) v' w2 → ∃ q k, v' = .slice q 1 k ∧ Hid (OwnG elTy w2 (.slice q 1 k) [⟨4, cn⟩] ∧ NewV W1 (.slice q 1 k) ∧ Fr no W1 w2 ∧ w2.heap[w.heap.size + 1]? = some (.cells #[.bool false, .slice none 0 0, .slice none 0 0, .slice none 0 0] 67 (0, 0))) ∧ w2.cell? ⟨w.heap.size, 4, none⟩ = some (.int .i64 3) ∧ ((w2.alloc (.cells #[.int .i64 6, .string ⟨#[]⟩] 44)).alloc (.cells #[.int .i64 6, .string ⟨#[]⟩] 44)).cell? ⟨w.heap.size, 4, none⟩ = some (.int .i64 3)) := fun v' w2 o2 s2 => by
  have NV1 : NewV W1 (.slice (some ⟨w.heap.size + 2, 0, none⟩) 1 1) := fun k hk => by
   simp only [Value.ownBlock, Option.some.injEq] at hk
   omega
  obtain ⟨m2, f21⟩ := NV1.step HF2.out s2
  have L2 := cell_at (o := 4) (f21.heap E0 (fun f => f))
  obtain ⟨q2, k2, rfl⟩ := o2.form
  have f5 : Fr no w2 ((w2.alloc (.cells #[.int .i64 6, .string ⟨#[]⟩] 44)).alloc (.cells #[.int .i64 6, .string ⟨#[]⟩] 44)) := ((Fr.refl no w2).alloc _ _).new ((Fr.refl no _).alloc _ _) (fun _ _ f => f)
  exact ⟨q2, k2, rfl, ⟨o2, m2, f21, f21.heap E1 (fun f => f)⟩, L2, f5.cell L2 (fun f => f)⟩
 have HF1 : Hid _ := F1
 have HE1 : Hid _ := E1
 clear G0 G1 E0 E1 F1 hp0
 go_enter Tryz.func116, Tryz.ntmps116
 go_wp2_with (first | (at_builtin; refine wpList_apdG okTy _ rfl rfl _ _ rfl (.slice (some ⟨w.heap.size + 2, 0, none⟩) 1 1) [⟨4, cn⟩] rfl HO1.out _ rfl [] (src_empty _ _ _ HP.out) (by intro h; cases h) (by simp) ?_; intro v' w2 o2 s2; obtain ⟨q2, k2, rfl, HO2, L2, L5⟩ := HST.out v' w2 o2 s2; clear o2 s2 HST))
 have F5 : Fr no w2 ((w2.alloc (.cells #[.int .i64 6, .string ⟨#[]⟩] 44)).alloc (.cells #[.int .i64 6, .string ⟨#[]⟩] 44)) := ((Fr.refl no w2).alloc _ _).new ((Fr.refl no _).alloc _ _) (fun _ _ f => f)
 have E5 : ((w2.alloc (.cells #[.int .i64 6, .string ⟨#[]⟩] 44)).alloc (.cells #[.int .i64 6, .string ⟨#[]⟩] 44)).heap[w2.heap.size + 1]? = some (.cells #[.int .i64 6, .string ⟨#[]⟩] 44 (0, 0)) := by rw [← size_alloc w2 (.cells #[.int .i64 6, .string ⟨#[]⟩] 44)]; exact heap_alloc_new _ _
 have s5 : ((w2.alloc (.cells #[.int .i64 6, .string ⟨#[]⟩] 44)).alloc (.cells #[.int .i64 6, .string ⟨#[]⟩] 44)).heap.size = w2.heap.size + 2 := by rw [size_alloc, size_alloc]
 generalize (w2.alloc (.cells #[.int .i64 6, .string ⟨#[]⟩] 44)).alloc (.cells #[.int .i64 6, .string ⟨#[]⟩] 44) = W5 at *
 refine (repeat2 W5 (w2.heap.size + 1) top E5).mono ?_
 rintro e w6 ⟨v6, rfl, o6, f6⟩
 obtain ⟨q6, k6, hv6⟩ := o6.form
 have hv6' : v6 = .slice q6 2 k6 := hv6
 clear hv6
 subst hv6'
 obtain ⟨o2, n2, f2, b2⟩ := HO2.out
 have HO3 : Hid (OwnG elTy w6 (.slice q2 1 k2) [⟨4, cn⟩]) := (o2.keep F5).keep f6
 have HS6 : Hid (Src Tryz.prog elTy.n elTy.t (.slice q6 2 k6) ([top, top] : List Ty).length (cg elTy [top, top]) w6) := by
  have sl := o6.sl okTy
  cases q6 with
  | none => have := sl.none_nil; simp at this
  | some a => exact sl.src okTy
 have f16 : Fr no W1 w6 := (f2.new F5 (fun _ _ f => f)).new f6 (fun _ _ f => f)
 have HST : Hid (∀ v' w7, OwnG elTy w7 v' ([⟨4, cn⟩] ++ [top, top]) → Sp no (.slice q2 1 k2) w6 v' w7 → ∃ q k, v' = .slice q 3 k ∧ Hid (OwnG elTy w7 (.slice q 3 k) [⟨4, cn⟩, top, top] ∧ NewV W1 (.slice q 3 k) ∧ Fr no w w7) ∧ w7.heap[w.heap.size + 1]? = some (.cells #[.bool false, .slice none 0 0, .slice none 0 0, .slice none 0 0] 67 (0, 0))) := fun v' w7 o7 s7 => by
  obtain ⟨m7, f7⟩ := n2.step f16 s7
  obtain ⟨q7, k7, rfl⟩ := o7.form
  exact ⟨q7, k7, rfl, ⟨o7, m7, HF1.out.new f7 (fun _ _ f => f)⟩, f7.heap HE1.out (fun f => f)⟩
 clear HO2 o2 n2 f2 b2 o6 f6 F5 E5 s5 L5 L2 f16 HO1 HF2 c1 HP
 go_wp2_with (first | (at_builtin; refine wpList_apdG okTy _ rfl rfl _ _ rfl (.slice q2 1 k2) [⟨4, cn⟩] rfl HO3.out _ rfl [top, top] HS6.out (by simp) (by simp) ?_; intro v' w7 o7 s7; obtain ⟨q7, k7, rfl, HO7, B7⟩ := HST.out v' w7 o7 s7; have C4 := chain4 B7 (.bool true) (.slice q7 3 k7) (.slice none 0 0) (.slice none 0 0); have F4 := frc4 w7 (w.heap.size + 1) (.bool true) (.slice q7 3 k7) (.slice none 0 0) (.slice none 0 0); have fz := fun o => frozen_at (o := o) B7; have HZ : Hid (_ ∧ _) := And.intro C4 F4; obtain ⟨z0, z1, z2, z3⟩ := box4 B7; clear o7 s7 HST C4 F4 B7))
 refine bodyPost_ret (results_82 _ (w.heap.size + 1) _ _ _ _ HZ.out.1 _ rfl) rfl ?_
 obtain ⟨o7, n7, f7⟩ := HO7.out
 refine ⟨⟨true, ⟨q7, 3, k7⟩, ⟨none, 0, 0⟩, ⟨none, 0, 0⟩⟩, rfl, rfl, rfl, rfl, o7.kept HZ.out.2 (fun k hk e => ?_), fun k hk => ?_, f7.new HZ.out.2 (fun i hi e => by omega)⟩
 · have := n7 k hk
   omega
 · have := n7 k hk
   omega
set_option maxRecDepth 100000 in
set_option maxHeartbeats 4000000 in
theorem entry_8 (w : World) (cn : ByteArray) (m : Ms) (hp : m.p.n = 0) (hp0 : m.p.a = none → m.p.c = 0) (hlo : m.lo = 8) :
 Calls Tryz.prog 116 #[.string cn, msV m] w fun e w' => ∃ s : Sa, e = .returned (saV s) ∧ s.r = true ∧ s.st = ⟨none, 0, 0⟩ ∧ s.lk = ⟨none, 0, 0⟩ ∧ OwnG elTy w' (.slice s.lo.a s.lo.n s.lo.c) (⟨4, cn⟩ :: [top, top, top, top, top, top, top]) ∧ NewV w (.slice s.lo.a s.lo.n s.lo.c) ∧ Fr no w w' := by
 obtain ⟨mn, ⟨pa, pn, pc⟩, ⟨rk, rc⟩, lo, st, ⟨ca, cn', cc⟩, ⟨ha, hn, hc⟩⟩ := m
 simp only at hp hp0 hlo
 subst hp hlo
 unfold msV
 simp only
 generalize hW1 : (w.alloc (.cells #[.string mn, .slice pa 0 pc, .int .i64 rk, .string rc, .int .i64 8, .int .i64 st, .slice ca cn' cc, .slice ha hn hc] 47)).alloc (.cells #[.bool false, .slice none 0 0, .slice none 0 0, .slice none 0 0] 67) = W1
 have G0 : Fr no w (w.alloc (.cells #[.string mn, .slice pa 0 pc, .int .i64 rk, .string rc, .int .i64 8, .int .i64 st, .slice ca cn' cc, .slice ha hn hc] 47)) := (Fr.refl no w).alloc _ _
 have G1 : Fr no (w.alloc (.cells #[.string mn, .slice pa 0 pc, .int .i64 rk, .string rc, .int .i64 8, .int .i64 st, .slice ca cn' cc, .slice ha hn hc] 47)) W1 := by rw [← hW1]; exact (Fr.refl no _).alloc _ _
 have E0 : W1.heap[w.heap.size]? = some (.cells #[.string mn, .slice pa 0 pc, .int .i64 rk, .string rc, .int .i64 8, .int .i64 st, .slice ca cn' cc, .slice ha hn hc] 47 (0, 0)) := G1.heap (heap_alloc_new w _) (fun f => f)
 have E1 : W1.heap[w.heap.size + 1]? = some (.cells #[.bool false, .slice none 0 0, .slice none 0 0, .slice none 0 0] 67 (0, 0)) := by rw [← hW1, ← size_alloc w (.cells #[.string mn, .slice pa 0 pc, .int .i64 rk, .string rc, .int .i64 8, .int .i64 st, .slice ca cn' cc, .slice ha hn hc] 47)]; exact heap_alloc_new _ _
 have s1 : W1.heap.size = w.heap.size + 2 := by rw [← hW1, size_alloc, size_alloc]
 have F1 : Fr no w W1 := G0.new G1 (fun _ _ f => f)
 have HO1 : Hid (OwnG elTy (W1.alloc (.cells #[.int .i64 4, .string cn] 44)) (.slice (some ⟨w.heap.size + 2, 0, none⟩) 1 1) [⟨4, cn⟩]) := s1 ▸ own_lit okTy W1 [⟨4, cn⟩] _ (by rfl) (show 1 ≤ maxLen by decide)
 have HP : Hid _ := hp0
 have HF2 : Hid (Fr no W1 (W1.alloc (.cells #[.int .i64 4, .string cn] 44))) := (Fr.refl no W1).alloc _ _
 have c1 := cell_at (o := 1) (HF2.out.heap E0 (fun f => f))
 simp at c1
 have HST : Hid (∀ v' w2, OwnG elTy w2 v' ([⟨4, cn⟩] ++ []) → Sp no (.slice (some ⟨w.heap.size + 2, 0, none⟩) 1 1) (W1.alloc (.cells #[.int .i64 4, .string cn] 44)) v' w2 → ∃ q k, v' = .slice q 1 k ∧ Hid (OwnG elTy w2 (.slice q 1 k) [⟨4, cn⟩] ∧ NewV W1 (.slice q 1 k) ∧ Fr no W1 w2 ∧ w2.heap[w.heap.size + 1]? = some (.cells #[.bool false, .slice none 0 0, .slice none 0 0, .slice none 0 0] 67 (0, 0))) ∧ w2.cell? ⟨w.heap.size, 4, none⟩ = some (.int .i64 8) ∧ ((w2.alloc (.cells #[.int .i64 6, .string ⟨#[]⟩] 44)).alloc (.cells #[.int .i64 6, .string ⟨#[]⟩] 44)).cell? ⟨w.heap.size, 4, none⟩ = some (.int .i64 8)) := fun v' w2 o2 s2 => by
  have NV1 : NewV W1 (.slice (some ⟨w.heap.size + 2, 0, none⟩) 1 1) := fun k hk => by
   simp only [Value.ownBlock, Option.some.injEq] at hk
   omega
  obtain ⟨m2, f21⟩ := NV1.step HF2.out s2
  have L2 := cell_at (o := 4) (f21.heap E0 (fun f => f))
  obtain ⟨q2, k2, rfl⟩ := o2.form
  have f5 : Fr no w2 ((w2.alloc (.cells #[.int .i64 6, .string ⟨#[]⟩] 44)).alloc (.cells #[.int .i64 6, .string ⟨#[]⟩] 44)) := ((Fr.refl no w2).alloc _ _).new ((Fr.refl no _).alloc _ _) (fun _ _ f => f)
  exact ⟨q2, k2, rfl, ⟨o2, m2, f21, f21.heap E1 (fun f => f)⟩, L2, f5.cell L2 (fun f => f)⟩
 have HF1 : Hid _ := F1
 have HE1 : Hid _ := E1
 clear G0 G1 E0 E1 F1 hp0
 go_enter Tryz.func116, Tryz.ntmps116
 go_wp2_with (first | (at_builtin; refine wpList_apdG okTy _ rfl rfl _ _ rfl (.slice (some ⟨w.heap.size + 2, 0, none⟩) 1 1) [⟨4, cn⟩] rfl HO1.out _ rfl [] (src_empty _ _ _ HP.out) (by intro h; cases h) (by simp) ?_; intro v' w2 o2 s2; obtain ⟨q2, k2, rfl, HO2, L2, L5⟩ := HST.out v' w2 o2 s2; clear o2 s2 HST))
 have F5 : Fr no w2 ((w2.alloc (.cells #[.int .i64 6, .string ⟨#[]⟩] 44)).alloc (.cells #[.int .i64 6, .string ⟨#[]⟩] 44)) := ((Fr.refl no w2).alloc _ _).new ((Fr.refl no _).alloc _ _) (fun _ _ f => f)
 have E5 : ((w2.alloc (.cells #[.int .i64 6, .string ⟨#[]⟩] 44)).alloc (.cells #[.int .i64 6, .string ⟨#[]⟩] 44)).heap[w2.heap.size + 1]? = some (.cells #[.int .i64 6, .string ⟨#[]⟩] 44 (0, 0)) := by rw [← size_alloc w2 (.cells #[.int .i64 6, .string ⟨#[]⟩] 44)]; exact heap_alloc_new _ _
 have s5 : ((w2.alloc (.cells #[.int .i64 6, .string ⟨#[]⟩] 44)).alloc (.cells #[.int .i64 6, .string ⟨#[]⟩] 44)).heap.size = w2.heap.size + 2 := by rw [size_alloc, size_alloc]
 generalize (w2.alloc (.cells #[.int .i64 6, .string ⟨#[]⟩] 44)).alloc (.cells #[.int .i64 6, .string ⟨#[]⟩] 44) = W5 at *
 refine (repeat7 W5 (w2.heap.size + 1) top E5).mono ?_
 rintro e w6 ⟨v6, rfl, o6, f6⟩
 obtain ⟨q6, k6, hv6⟩ := o6.form
 have hv6' : v6 = .slice q6 7 k6 := hv6
 clear hv6
 subst hv6'
 obtain ⟨o2, n2, f2, b2⟩ := HO2.out
 have HO3 : Hid (OwnG elTy w6 (.slice q2 1 k2) [⟨4, cn⟩]) := (o2.keep F5).keep f6
 have HS6 : Hid (Src Tryz.prog elTy.n elTy.t (.slice q6 7 k6) ([top, top, top, top, top, top, top] : List Ty).length (cg elTy [top, top, top, top, top, top, top]) w6) := by
  have sl := o6.sl okTy
  cases q6 with
  | none => have := sl.none_nil; simp at this
  | some a => exact sl.src okTy
 have f16 : Fr no W1 w6 := (f2.new F5 (fun _ _ f => f)).new f6 (fun _ _ f => f)
 have HST : Hid (∀ v' w7, OwnG elTy w7 v' ([⟨4, cn⟩] ++ [top, top, top, top, top, top, top]) → Sp no (.slice q2 1 k2) w6 v' w7 → ∃ q k, v' = .slice q 8 k ∧ Hid (OwnG elTy w7 (.slice q 8 k) (⟨4, cn⟩ :: [top, top, top, top, top, top, top]) ∧ NewV W1 (.slice q 8 k) ∧ Fr no w w7) ∧ w7.heap[w.heap.size + 1]? = some (.cells #[.bool false, .slice none 0 0, .slice none 0 0, .slice none 0 0] 67 (0, 0))) := fun v' w7 o7 s7 => by
  obtain ⟨m7, f7⟩ := n2.step f16 s7
  obtain ⟨q7, k7, rfl⟩ := o7.form
  exact ⟨q7, k7, rfl, ⟨o7, m7, HF1.out.new f7 (fun _ _ f => f)⟩, f7.heap HE1.out (fun f => f)⟩
 clear HO2 o2 n2 f2 b2 o6 f6 F5 E5 s5 L5 L2 f16 HO1 HF2 c1 HP
 go_wp2_with (first | (at_builtin; refine wpList_apdG okTy _ rfl rfl _ _ rfl (.slice q2 1 k2) [⟨4, cn⟩] rfl HO3.out _ rfl [top, top, top, top, top, top, top] HS6.out (by simp) (by simp) ?_; intro v' w7 o7 s7; obtain ⟨q7, k7, rfl, HO7, B7⟩ := HST.out v' w7 o7 s7; have C4 := chain4 B7 (.bool true) (.slice q7 8 k7) (.slice none 0 0) (.slice none 0 0); have F4 := frc4 w7 (w.heap.size + 1) (.bool true) (.slice q7 8 k7) (.slice none 0 0) (.slice none 0 0); have fz := fun o => frozen_at (o := o) B7; have HZ : Hid (_ ∧ _) := And.intro C4 F4; obtain ⟨z0, z1, z2, z3⟩ := box4 B7; clear o7 s7 HST C4 F4 B7))
 refine bodyPost_ret (results_82 _ (w.heap.size + 1) _ _ _ _ HZ.out.1 _ rfl) rfl ?_
 obtain ⟨o7, n7, f7⟩ := HO7.out
 refine ⟨⟨true, ⟨q7, 8, k7⟩, ⟨none, 0, 0⟩, ⟨none, 0, 0⟩⟩, rfl, rfl, rfl, rfl, o7.kept HZ.out.2 (fun k hk e => ?_), fun k hk => ?_, f7.new HZ.out.2 (fun i hi e => by omega)⟩
 · have := n7 k hk
   omega
 · have := n7 k hk
   omega
set_option maxRecDepth 100000 in
set_option maxHeartbeats 4000000 in
theorem entry_1 (w : World) (cn : ByteArray) (m : Ms) (hp : m.p.n = 0) (hp0 : m.p.a = none → m.p.c = 0) (hlo : m.lo = 1) :
 Calls Tryz.prog 116 #[.string cn, msV m] w fun e w' => ∃ s : Sa, e = .returned (saV s) ∧ s.r = true ∧ s.st = ⟨none, 0, 0⟩ ∧ s.lk = ⟨none, 0, 0⟩ ∧ OwnG elTy w' (.slice s.lo.a s.lo.n s.lo.c) [⟨4, cn⟩] ∧ NewV w (.slice s.lo.a s.lo.n s.lo.c) ∧ Fr no w w' := by
 obtain ⟨mn, ⟨pa, pn, pc⟩, ⟨rk, rc⟩, lo, st, ⟨ca, cn', cc⟩, ⟨ha, hn, hc⟩⟩ := m
 simp only at hp hp0 hlo
 subst hp hlo
 unfold msV
 simp only
 generalize hW1 : (w.alloc (.cells #[.string mn, .slice pa 0 pc, .int .i64 rk, .string rc, .int .i64 1, .int .i64 st, .slice ca cn' cc, .slice ha hn hc] 47)).alloc (.cells #[.bool false, .slice none 0 0, .slice none 0 0, .slice none 0 0] 67) = W1
 have G0 : Fr no w (w.alloc (.cells #[.string mn, .slice pa 0 pc, .int .i64 rk, .string rc, .int .i64 1, .int .i64 st, .slice ca cn' cc, .slice ha hn hc] 47)) := (Fr.refl no w).alloc _ _
 have G1 : Fr no (w.alloc (.cells #[.string mn, .slice pa 0 pc, .int .i64 rk, .string rc, .int .i64 1, .int .i64 st, .slice ca cn' cc, .slice ha hn hc] 47)) W1 := by rw [← hW1]; exact (Fr.refl no _).alloc _ _
 have E0 : W1.heap[w.heap.size]? = some (.cells #[.string mn, .slice pa 0 pc, .int .i64 rk, .string rc, .int .i64 1, .int .i64 st, .slice ca cn' cc, .slice ha hn hc] 47 (0, 0)) := G1.heap (heap_alloc_new w _) (fun f => f)
 have E1 : W1.heap[w.heap.size + 1]? = some (.cells #[.bool false, .slice none 0 0, .slice none 0 0, .slice none 0 0] 67 (0, 0)) := by rw [← hW1, ← size_alloc w (.cells #[.string mn, .slice pa 0 pc, .int .i64 rk, .string rc, .int .i64 1, .int .i64 st, .slice ca cn' cc, .slice ha hn hc] 47)]; exact heap_alloc_new _ _
 have s1 : W1.heap.size = w.heap.size + 2 := by rw [← hW1, size_alloc, size_alloc]
 have F1 : Fr no w W1 := G0.new G1 (fun _ _ f => f)
 have HO1 : Hid (OwnG elTy (W1.alloc (.cells #[.int .i64 4, .string cn] 44)) (.slice (some ⟨w.heap.size + 2, 0, none⟩) 1 1) [⟨4, cn⟩]) := s1 ▸ own_lit okTy W1 [⟨4, cn⟩] _ (by rfl) (show 1 ≤ maxLen by decide)
 have HP : Hid _ := hp0
 have HF2 : Hid (Fr no W1 (W1.alloc (.cells #[.int .i64 4, .string cn] 44))) := (Fr.refl no W1).alloc _ _
 have c1 := cell_at (o := 1) (HF2.out.heap E0 (fun f => f))
 simp at c1
 have HST : Hid (∀ v' w2, OwnG elTy w2 v' ([⟨4, cn⟩] ++ []) → Sp no (.slice (some ⟨w.heap.size + 2, 0, none⟩) 1 1) (W1.alloc (.cells #[.int .i64 4, .string cn] 44)) v' w2 → ∃ q k, v' = .slice q 1 k ∧ Hid (OwnG elTy w2 (.slice q 1 k) [⟨4, cn⟩] ∧ NewV W1 (.slice q 1 k) ∧ Fr no w w2) ∧ w2.cell? ⟨w.heap.size, 4, none⟩ = some (.int .i64 1) ∧ w2.heap[w.heap.size + 1]? = some (.cells #[.bool false, .slice none 0 0, .slice none 0 0, .slice none 0 0] 67 (0, 0))) := fun v' w2 o2 s2 => by
  have NV1 : NewV W1 (.slice (some ⟨w.heap.size + 2, 0, none⟩) 1 1) := fun k hk => by
   simp only [Value.ownBlock, Option.some.injEq] at hk
   omega
  obtain ⟨m2, f21⟩ := NV1.step HF2.out s2
  have L2 := cell_at (o := 4) (f21.heap E0 (fun f => f))
  obtain ⟨q2, k2, rfl⟩ := o2.form
  exact ⟨q2, k2, rfl, ⟨o2, m2, F1.new f21 (fun _ _ f => f)⟩, L2, f21.heap E1 (fun f => f)⟩
 have HF1 : Hid _ := F1
 have HE1 : Hid _ := E1
 clear G0 G1 E0 E1 F1 hp0
 go_enter Tryz.func116, Tryz.ntmps116
 go_wp2_with (first | (at_builtin; refine wpList_apdG okTy _ rfl rfl _ _ rfl (.slice (some ⟨w.heap.size + 2, 0, none⟩) 1 1) [⟨4, cn⟩] rfl HO1.out _ rfl [] (src_empty _ _ _ HP.out) (by intro h; cases h) (by simp) ?_; intro v' w2 o2 s2; obtain ⟨q7, k7, rfl, HO7, L2, B7⟩ := HST.out v' w2 o2 s2; have C4 := chain4 B7 (.bool true) (.slice q7 1 k7) (.slice none 0 0) (.slice none 0 0); have F4 := frc4 w2 (w.heap.size + 1) (.bool true) (.slice q7 1 k7) (.slice none 0 0) (.slice none 0 0); have fz := fun o => frozen_at (o := o) B7; have HZ : Hid (_ ∧ _) := And.intro C4 F4; obtain ⟨z0, z1, z2, z3⟩ := box4 B7; clear o2 s2 HST C4 F4 B7))
 refine bodyPost_ret (results_82 _ (w.heap.size + 1) _ _ _ _ HZ.out.1 _ rfl) rfl ?_
 obtain ⟨o7, n7, f7⟩ := HO7.out
 refine ⟨⟨true, ⟨q7, 1, k7⟩, ⟨none, 0, 0⟩, ⟨none, 0, 0⟩⟩, rfl, rfl, rfl, rfl, o7.kept HZ.out.2 (fun k hk e => ?_), fun k hk => ?_, f7.new HZ.out.2 (fun i hi e => by omega)⟩
 · have := n7 k hk
   omega
 · have := n7 k hk
   omega
def Low (lo : Int) (ts : List Ty) : Prop := (lo = 1 ∧ ts = []) ∨ (lo = 3 ∧ ts = [top, top]) ∨ (lo = 8 ∧ ts = [top, top, top, top, top, top, top])
theorem Low.len {lo : Int} {ts : List Ty} (h : Low lo ts) : ts.length ≤ 7 := by
 rcases h with ⟨_, rfl⟩ | ⟨_, rfl⟩ | ⟨_, rfl⟩ <;> decide
theorem entry_any (w : World) (cn : ByteArray) (m : Ms) (hp : m.p.n = 0) (hp0 : m.p.a = none → m.p.c = 0) (ts : List Ty) (hlo : Low m.lo ts) :
 Calls Tryz.prog 116 #[.string cn, msV m] w fun e w' => ∃ s : Sa, e = .returned (saV s) ∧ s.r = true ∧ s.st = ⟨none, 0, 0⟩ ∧ s.lk = ⟨none, 0, 0⟩ ∧ OwnG elTy w' (.slice s.lo.a s.lo.n s.lo.c) (⟨4, cn⟩ :: ts) ∧ NewV w (.slice s.lo.a s.lo.n s.lo.c) ∧ Fr no w w' := by
 rcases hlo with ⟨h, rfl⟩ | ⟨h, rfl⟩ | ⟨h, rfl⟩
 · exact entry_1 w cn m hp hp0 h
 · exact entry_3 w cn m hp hp0 h
 · exact entry_8 w cn m hp hp0 h
end Go.Proofs.YtalgjpmaafooeaaGreatDoor
