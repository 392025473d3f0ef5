/- Whether an instruction may read its local. -/
import Derived.Test.YtalgjpmaafooeaaGreatDoorKam
namespace Go.Proofs.YtalgjpmaafooeaaGreatDoor
open Go.ChangeShapes Go.WideShapes Go.ChangeAt Go.RowKit
open H (ix NewV)
def readE (op a : Int) (lo : List Ty) : Int := if (op = 4 ∨ op = 38 ∨ op = 39) ∧ ((lo.getD a.toNat top).k = 6) then 82 else if (op = 38 ∨ op = 39) ∧ fitO (lo.getD a.toNat top) = false then 80 else 0
def rd38 (ins : Int × Int) (lo : List Ty) : Prop := (ins.1 = 38 ∨ ins.1 = 39) → 0 ≤ ins.2 ∧ ins.2 < lo.length ∧ ((lo.getD ins.2.toNat top).k = 4 → (lo.getD ins.2.toNat top).c = sMain)
instance (ins : Int × Int) (lo : List Ty) : Decidable (rd38 ins lo) := by unfold rd38; infer_instance
section
variable {ops : Array Oper} {Q : Exit → Act → World → Prop} {S : World → Prop} {g : Nat}
theorem late_opW {i : Nat} {o : Oper} {a : Act} {w : World} {K : Act → World → Prop} (hi : ops[i]? = some o) (hw : Region.wanted o (yielded ops a.tmps) = true) {v : Value} {w' : World} (h : (execOp a.eval o).run Tryz.prog w = .ok (.value v) w') (hK : K (a.put o.dst v) w') : wpOp Tryz.prog ops Q i K a w := by
 unfold wpOp
 simp only [hi]
 rw [if_pos hw]
 refine .inl ?_
 unfold Oper.wp
 rw [h]
 exact hK
theorem late_callW {i f : Nat} {o : Oper} {a : Act} {w : World} {K : Act → World → Prop} (hi : ops[i]? = some o) (hw : Region.wanted o (yielded ops a.tmps) = true) {vals : Array Value} (hrun : (execOp a.eval o).run Tryz.prog w = .ok (.enter f vals) w)
 {R : Value → World → Prop} (C : Calls Tryz.prog f vals w fun e w' => ∃ v, e = .returned v ∧ R v w') (hK : ∀ v w', R v w' → K (a.put o.dst v) w') : wpOp Tryz.prog ops Q i K a w := by
 unfold wpOp
 simp only [hi]
 rw [if_pos hw]
 refine .inl ?_
 unfold Oper.wp
 rw [hrun, Oper.upon_enter]
 refine C.mono ?_
 rintro e w' ⟨v, rfl, hr⟩
 exact hK v w' hr
theorem yieldsW {o : Oper} {a : Act} {v : Value} (hw : Region.wanted o (yielded ops a.tmps) = true) (h : ∀ w, S w → (execOp a.eval o).run Tryz.prog w = .ok (.value v) w) : YieldsIf Tryz.prog ops S o v a := .inl ⟨hw, h⟩
theorem ev_build4 {o : Oper} {a : Act} {w : World} (ho : o.op = .buildSlice 25 1 #[(0, .const (.int .i64 4))]) : (execOp a.eval o).run Tryz.prog w = .ok (.value (.slice (some ⟨w.heap.size, 0, none⟩) 1 1)) (w.alloc (.cells #[.int .i64 4] 3)) := by
 unfold execOp
 rw [ho]
 kernel_rfl
theorem late_new {i : Nat} {o : Oper} {a : Act} {w W : World} {K : Act → World → Prop} (hi : ops[i]? = some o) (zs : Array Value) (t : TypeId) (g : Fr no W w) (hK : ∀ w2 b, w2.heap[b]? = some (.cells zs t (0, 0)) → Fr no w w2 → Fr no W w2 → W.heap.size ≤ b → K (a.put o.dst (.pointer (some ⟨b, 0, none⟩))) w2)
 (hg : o.guard = none := by kernel_rfl) (h : (execOp a.eval o).run Tryz.prog w = .ok (.value (.pointer (some ⟨w.heap.size, 0, none⟩))) (w.alloc (.cells zs t)) := by kernel_rfl) : wpOp Tryz.prog ops Q i K a w :=
 late_op hi hg h (hK _ _ (heap_alloc_new w _) ((Fr.refl no w).alloc _ _) (g.alloc _ _) g.size)
theorem late_at {n : Nat} {L L' : Array Bool} {a a' : Act} {w : World} (hL : L = L') (ha : a = a') (h : wpLate ops Q S g n L' a' w) : wpLate ops Q S g n L a w := by
 rw [hL, ha]
 exact h
theorem with_cont {n m : Nat} {L0 : Array Bool} {a0 : Act} {w0 : World} (α : Type) (L' : Array Bool) (A : α → Act) (F : α → World → Prop) (cont : ∀ x w', F x w' → wpLate ops Q S g m L' (A x) w')
 (k : (∀ x w', F x w' → wpLate ops Q S g m L' (A x) w') → wpLate ops Q S g n L0 a0 w0) : wpLate ops Q S g n L0 a0 w0 := k cont
theorem two_of {j a b : Nat} (h : j ∈ [a, b]) : j = a ∨ j = b := by simpa using h
variable {n : Nat} {L : Array Bool} {a : Act} {w : World}
theorem lateP (i : Nat) (v : Value) {oi : Oper} (hi : ops[i]? = some oi) (he : ∀ w, (execOp a.eval oi).run Tryz.prog w = .ok (.value v) w) (hS : L.getD g true = false → S w) (h : wpLate ops Q S g n (L.setIfInBounds i true) (a.put oi.dst v) w)
 (hg : oi.guard = none := by kernel_rfl) (hs : Region.noSelect ops = true := by kernel_rfl) (hf : Region.free .any ops L i = true := by kernel_rfl) (hr : (Region.ready .any ops L).contains i = true := by kernel_rfl) (hgi : i ≠ g := by decide)
 (hQ : ∀ c a w, Q (.panic c) (a.put oi.dst v) w → Q (.panic c) a w := by exact fun _ _ _ h => h) : wpLate ops Q S g (n + 1) L a w :=
 late_pure i v hi hs hf hr hQ hgi (yields hg (fun w _ => he w)) hS h
theorem lateT (i : Nat) (v : Value) {oi : Oper} (hi : ops[i]? = some oi) (he : ∀ w, S w → (execOp a.eval oi).run Tryz.prog w = .ok (.value v) w) (hS : S w) (h : wpLate ops Q S g n (L.setIfInBounds i true) (a.put oi.dst v) w)
 (hg : oi.guard = none := by kernel_rfl) (hs : Region.noSelect ops = true := by kernel_rfl) (hf : Region.free .any ops L i = true := by kernel_rfl) (hr : (Region.ready .any ops L).contains i = true := by kernel_rfl) (hgi : i ≠ g := by decide) (hw : waitsB ops g i = true := by kernel_rfl) (hgu : L.getD g true = false := by kernel_rfl)
 (hQ : ∀ c a w, Q (.panic c) (a.put oi.dst v) w → Q (.panic c) a w := by exact fun _ _ _ h => h) : wpLate ops Q S g (n + 1) L a w :=
 late_take i v hi hs hf hr hQ (waits_of hw) hgi hgu (yields hg he) hS h
theorem lateN (L' : Array Bool) (a' : Act) (h : wpLate ops Q S g n L' a' w) (hL : L = L' := by kernel_rfl) (ha : a = a' := by kernel_rfl) : wpLate ops Q S g n L a w := late_at hL ha h
end
set_option maxRecDepth 100000 in
set_option maxHeartbeats 4000000 in
theorem readLock (w : World) (f : Nat) (op : Int) (hop : op = 38 ∨ op = 39) (a : Int) (v : Value) (lo : List Ty) (hv : SlG elTy w v lo) (q : Value) (hq : w.cell? ⟨f, 0, none⟩ = some q) (hQ : FitQ w q) (h38 : rd38 (op, a) lo) :
 Calls Tryz.prog 149 #[.pointer (some ⟨f, 0, none⟩), .agg #[.int .i64 op, .int .i64 a], v] w fun e w' => e = .returned (.int .i64 (readE op a lo)) ∧ Fr no w w' := by
 obtain ⟨ad, cap, rfl, hl, hc, hit⟩ := hv
 obtain ⟨ha1, ha2, ha3⟩ := h38 hop
 simp only at ha1 ha2 ha3
 obtain ⟨n, rfl⟩ : ∃ n : Nat, a = (n : Int) := ⟨a.toNat, by omega⟩
 obtain ⟨t, ht⟩ : ∃ t, lo[n]? = some t := ⟨_, List.getElem?_eq_getElem (by omega)⟩
 obtain ⟨b, off, rfl, hcell⟩ := hit n t ht
 rw [Int.toNat_natCast, List.getD_eq_getElem?_getD, ht, Option.getD_some] at ha3
 have F : Fr no w (w.alloc (.cells #[.int .i64 op, .int .i64 (n : Int)] 27)) := (Fr.refl no w).alloc _ _
 have HE : Hid (readE op (n : Int) lo = if t.k = 6 then 82 else if fitO t = false then 80 else 0) := by
  show _ = _
  unfold readE
  rw [Int.toNat_natCast, List.getD_eq_getElem?_getD, ht, Option.getD_some]
  simp only [hop, or_true, true_and]
 have E0 : (w.alloc (.cells #[.int .i64 op, .int .i64 (n : Int)] 27)).heap[w.heap.size]? = some (.cells #[.int .i64 op, .int .i64 (n : Int)] 27 (0, 0)) := heap_alloc_new w _
 have IT := isTop_any (w.alloc (.cells #[.int .i64 op, .int .i64 (n : Int)] 27)) t
 generalize hW : w.alloc (.cells #[.int .i64 op, .int .i64 (n : Int)] 27) = W at *
 have z0 := cell_at (o := 0) E0
 have z1 := cell_at (o := 1) E0
 simp only [List.getElem?_toArray, List.getElem?_cons_zero, List.getElem?_cons_succ] at z0 z1
 have d0 := F.cell (hcell 0 _ rfl) (fun f => f)
 have d1 := F.cell (hcell 1 _ rfl) (fun f => f)
 simp only [elTy, Nat.add_zero] at d0 d1
 have hnm : (n : Int) < (lo.length : Int) := by omega
 have HL0 : Hid (∀ w', Fr no W w' → w'.heap[w.heap.size]? = some (.cells #[.int .i64 op, .int .i64 (n : Int)] 27 (0, 0)) ∧ (∀ j u, ([.int .i64 t.k, .string t.c] : List Value)[j]? = some u → w'.cell? ⟨b, off + n * 2 + j, none⟩ = some u)) := fun w' hf => ⟨hf.heap E0 (fun f => f), fun j u hj => hf.cell (F.cell (hcell j u hj) (fun f => f)) (fun f => f)⟩
 have HFF0 : Hid (∀ w', Fr no W w' → Calls Tryz.prog 148 #[.pointer (some ⟨f, 0, none⟩), .agg #[.int .i64 t.k, .string t.c], .agg #[.int .i64 4, .string H.obj]] w' fun e w2 => e = .returned (.bool (fitO t)) ∧ Fr no w' w2) := fun w' hf => ffitsO_any w' f q (hf.cell (F.cell hq (fun f => f)) (fun f => f)) ((hQ.keep F).keep hf) t ha3
 have HF : Hid _ := F
 clear hq hQ h38 hit hcell ht E0 F ha3
 unfold tyV at IT
 have h4' : (op != 4) = true := by rcases hop with rfl | rfl <;> rfl
 generalize hlen : lo.length = m at *
 by_cases h6 : t.k = 6
 · have HE' : Hid (readE op (n : Int) lo = 82) := by show _ = _; rw [HE.out, if_pos h6]
   rw [decide_eq_true h6] at IT
   clear h6
   rcases hop with rfl | rfl
   · go_enter Tryz.func149, Tryz.ntmps149
     go_wp2_with fail
     refine IT.mono ?_
     rintro e w2 ⟨rfl, f2⟩
     go_wp2_with fail
     go_ret
     rw [HE'.out]
     exact ⟨rfl, HF.out.new f2 (fun _ _ f => f)⟩
   · go_enter Tryz.func149, Tryz.ntmps149
     go_wp2_with fail
     refine IT.mono ?_
     rintro e w2 ⟨rfl, f2⟩
     go_wp2_with fail
     go_ret
     rw [HE'.out]
     exact ⟨rfl, HF.out.new f2 (fun _ _ f => f)⟩
 · have HE' : Hid (readE op (n : Int) lo = if fitO t = false then 80 else 0) := by show _ = _; rw [HE.out, if_neg h6]
   rw [decide_eq_false h6] at IT
   clear HE h6
   rcases hop with rfl | rfl
   · go_enter Tryz.func149, Tryz.ntmps149
     go_wp2_with fail
     refine IT.mono ?_
     rintro e w2 ⟨rfl, f2⟩
     have hs3 : Fr no w2 w2.drew := (Fr.refl no w2).drew
     have HL : Hid (∀ w', Fr no w2 w' → w'.heap[w.heap.size]? = some (.cells #[.int .i64 38, .int .i64 (n : Int)] 27 (0, 0)) ∧ (∀ j u, ([.int .i64 t.k, .string t.c] : List Value)[j]? = some u → w'.cell? ⟨b, off + n * 2 + j, none⟩ = some u)) := fun w' hf => HL0.out w' (f2.new hf (fun _ _ f => f))
     have HFF : Hid (∀ w', Fr no w2 w' → Calls Tryz.prog 148 #[.pointer (some ⟨f, 0, none⟩), .agg #[.int .i64 t.k, .string t.c], .agg #[.int .i64 4, .string H.obj]] w' fun e w3 => e = .returned (.bool (fitO t)) ∧ Fr no w' w3) := fun w' hf => HFF0.out w' (f2.new hf (fun _ _ f => f))
     have HG : Hid (Fr no w w2) := HF.out.new f2 (fun _ _ f => f)
     clear IT f2 HL0 HFF0 z0 z1 d0 d1
     go_wp2_with fail
     generalize hw3 : w2.drew = w3 at *
     refine late_begin (S := fun w' => Fr no w2 w') (g := 14) (by kernel_rfl) ?_
     rw [hw3]
     refine with_cont (m := 0) (Nat × Nat) #[true, true, true, true, true, true, true, true, true, true, true, true, true, true, true, true, true] (fun x => { tmps := #[ptr f 0, .agg #[.int .i64 38, .int .i64 (n : Int)], .slice (some ⟨b, off, none⟩) m cap, undef, ptr w.heap.size 0, undef, .int .i64 0, ptr w.heap.size 0, .int .i64 38, .bool true, .bool true, ptr w.heap.size 0, .int .i64 38, .bool false, .bool false, .bool false, undef, undef, undef, .bool false, .slice (some ⟨b, off, none⟩) m cap, ptr w.heap.size 1, .int .i64 (n : Int), .pointer (some ⟨b, off + n * 2, none⟩), .agg #[.int .i64 t.k, .string t.c], .bool false, ptr w.heap.size 0, .int .i64 38, .bool true, .bool true, ptr f 0, .slice (some ⟨b, off, none⟩) m cap, ptr w.heap.size 1, .int .i64 (n : Int), .pointer (some ⟨b, off + n * 2, none⟩), .agg #[.int .i64 t.k, .string t.c], .slice (some ⟨x.1, 0, none⟩) 1 1, .slice (some ⟨x.2, 0, none⟩) 1 1, .pointer (some ⟨x.2, 0, none⟩), .agg #[.int .i64 4, .string H.obj], .bool (fitO t), .bool (!fitO t), .bool (!fitO t)], defers := [] }) (fun x w' => Fr no w2 w') ?_ (fun CONT => ?_)
     · rintro ⟨z, c⟩ w9 h9
       simp only
       refine late_done (by kernel_rfl) ?_
       cases hfo : fitO t with
       | true =>
        rw [hfo] at HE'
        clear HL HFF
        go_wp2_with fail
        go_ret
        rw [HE'.out]
        exact ⟨rfl, HG.out.new h9 (fun _ _ f => f)⟩
       | false =>
        rw [hfo] at HE'
        clear HL HFF
        go_wp2_with fail
        go_ret
        rw [HE'.out]
        exact ⟨rfl, HG.out.new h9 (fun _ _ f => f)⟩
     refine late_pure 0 (ptr w.heap.size 0) rfl (by kernel_rfl) (by kernel_rfl) (by kernel_rfl) (fun _ _ _ h => h) (by decide) (yieldsW (by kernel_rfl) (fun _ _ => ev_field 27 4 0 (ptr w.heap.size 0) _ rfl (by kernel_rfl) (by kernel_rfl))) (fun _ => hs3) ?_
     refine late_all [1] (by kernel_rfl) (by simp) (fun jj hjj => ?_)
     obtain rfl := one_of hjj
     refine late_opW rfl (by kernel_rfl) (ev_load 3 26 (.pointer (some ⟨w.heap.size, 0, none⟩)) (.int .i64 38) rfl (by kernel_rfl) (by simp [go_sem, cell_at (o := 0) (HL.out w3 hs3).1])) ?_
     refine ⟨fun _ => hs3, ?_⟩
     refine late_pure 2 (.bool true) rfl (by kernel_rfl) (by kernel_rfl) (by kernel_rfl) (fun _ _ _ h => h) (by decide) (yieldsW (by kernel_rfl) (fun _ _ => by kernel_rfl)) (fun _ => hs3) ?_
     refine late_pure 3 (.bool true) rfl (by kernel_rfl) (by kernel_rfl) (by kernel_rfl) (fun _ _ _ h => h) (by decide) (yieldsW (by kernel_rfl) (fun _ _ => ev_move 28 _ rfl (by kernel_rfl))) (fun _ => hs3) ?_
     refine late_pure 4 (ptr f 0) rfl (by kernel_rfl) (by kernel_rfl) (by kernel_rfl) (fun _ _ _ h => h) (by decide) (yieldsW (by kernel_rfl) (fun _ _ => ev_move 0 _ rfl (by kernel_rfl))) (fun _ => hs3) ?_
     refine late_pure 5 (.slice (some ⟨b, off, none⟩) m cap) rfl (by kernel_rfl) (by kernel_rfl) (by kernel_rfl) (fun _ _ _ h => h) (by decide) (yieldsW (by kernel_rfl) (fun _ _ => ev_move 2 _ rfl (by kernel_rfl))) (fun _ => hs3) ?_
     refine late_pure 6 (ptr w.heap.size 1) rfl (by kernel_rfl) (by kernel_rfl) (by kernel_rfl) (fun _ _ _ h => h) (by decide) (yieldsW (by kernel_rfl) (fun _ _ => ev_field 27 4 1 (ptr w.heap.size 0) _ rfl (by kernel_rfl) (by kernel_rfl))) (fun _ => hs3) ?_
     refine lateN #[true, true, true, true, true, true, true, false, false, false, false, false, false, false, false, false, false] ⟨#[ptr f 0, .agg #[.int .i64 38, .int .i64 (n : Int)], .slice (some ⟨b, off, none⟩) m cap, undef, ptr w.heap.size 0, undef, .int .i64 0, ptr w.heap.size 0, .int .i64 38, .bool true, .bool true, ptr w.heap.size 0, .int .i64 38, .bool false, .bool false, .bool false, undef, undef, undef, .bool false, .slice (some ⟨b, off, none⟩) m cap, ptr w.heap.size 1, .int .i64 (n : Int), .pointer (some ⟨b, off + n * 2, none⟩), .agg #[.int .i64 t.k, .string t.c], .bool false, ptr w.heap.size 0, .int .i64 38, .bool true, .bool true, ptr f 0, .slice (some ⟨b, off, none⟩) m cap, ptr w.heap.size 1, undef, undef, undef, undef, undef, undef, undef, undef, undef, undef], []⟩ ?_
     refine late_all [7, 10] (by kernel_rfl) (by simp) (fun jj hjj => ?_)
     replace hjj := two_of hjj
     rcases hjj with rfl | rfl
     · refine late_opW rfl (by kernel_rfl) (ev_load 3 32 (.pointer (some ⟨w.heap.size, 1, none⟩)) (.int .i64 (n : Int)) rfl (by kernel_rfl) (by simp [go_sem, cell_at (o := 1) (HL.out w3 (hs3)).1])) ?_
       refine ⟨fun _ => hs3, ?_⟩
       refine lateN #[true, true, true, true, true, true, true, true, false, false, false, false, false, false, false, false, false] ⟨#[ptr f 0, .agg #[.int .i64 38, .int .i64 (n : Int)], .slice (some ⟨b, off, none⟩) m cap, undef, ptr w.heap.size 0, undef, .int .i64 0, ptr w.heap.size 0, .int .i64 38, .bool true, .bool true, ptr w.heap.size 0, .int .i64 38, .bool false, .bool false, .bool false, undef, undef, undef, .bool false, .slice (some ⟨b, off, none⟩) m cap, ptr w.heap.size 1, .int .i64 (n : Int), .pointer (some ⟨b, off + n * 2, none⟩), .agg #[.int .i64 t.k, .string t.c], .bool false, ptr w.heap.size 0, .int .i64 38, .bool true, .bool true, ptr f 0, .slice (some ⟨b, off, none⟩) m cap, ptr w.heap.size 1, .int .i64 (n : Int), undef, undef, undef, undef, undef, undef, undef, undef, undef], []⟩ ?_
       refine late_pure 8 (.pointer (some ⟨b, off + n * 2, none⟩)) rfl (by kernel_rfl) (by kernel_rfl) (by kernel_rfl) (fun _ _ _ h => h) (by decide) (yieldsW (by kernel_rfl) (fun _ _ => ev_index 42 31 33 (.slice (some ⟨b, off, none⟩) m cap) (.int .i64 (n : Int)) _ rfl (by kernel_rfl) (by kernel_rfl) (by simp [go_sem, hnm]))) (fun _ => hs3) ?_
       refine late_take 9 (.agg #[.int .i64 t.k, .string t.c]) rfl (by kernel_rfl) (by kernel_rfl) (by kernel_rfl) (fun _ _ _ h => h) (waits_of (by kernel_rfl)) (by decide) (by kernel_rfl) (yieldsW (by kernel_rfl) (fun w' hS => ev_load 44 34 (.pointer (some ⟨b, off + n * 2, none⟩)) _ rfl (by kernel_rfl) (run_loadAt_mid (P := Tryz.prog) w' b (off + n * 2) 44 [.int .i64 t.k, .string t.c] _ (HL.out w' hS).2 Tryz.underlying44 rfl (by kernel_rfl)))) (hs3) ?_
       refine lateN #[true, true, true, true, true, true, true, true, true, true, false, false, false, false, false, false, false] ⟨#[ptr f 0, .agg #[.int .i64 38, .int .i64 (n : Int)], .slice (some ⟨b, off, none⟩) m cap, undef, ptr w.heap.size 0, undef, .int .i64 0, ptr w.heap.size 0, .int .i64 38, .bool true, .bool true, ptr w.heap.size 0, .int .i64 38, .bool false, .bool false, .bool false, undef, undef, undef, .bool false, .slice (some ⟨b, off, none⟩) m cap, ptr w.heap.size 1, .int .i64 (n : Int), .pointer (some ⟨b, off + n * 2, none⟩), .agg #[.int .i64 t.k, .string t.c], .bool false, ptr w.heap.size 0, .int .i64 38, .bool true, .bool true, ptr f 0, .slice (some ⟨b, off, none⟩) m cap, ptr w.heap.size 1, .int .i64 (n : Int), .pointer (some ⟨b, off + n * 2, none⟩), .agg #[.int .i64 t.k, .string t.c], undef, undef, undef, undef, undef, undef, undef], []⟩ ?_
       refine late_all [10] (by kernel_rfl) (by simp) (fun jj hjj => ?_)
       obtain rfl := one_of hjj
       refine late_opW rfl (by kernel_rfl) (ev_build4 rfl) ?_
       have ex4 : (w3.alloc (.cells #[.int .i64 4] 3)).heap[w3.heap.size]? = some (.cells #[.int .i64 4] 3 (0, 0)) := heap_alloc_new w3 _
       have hs4 : Fr no w2 (w3.alloc (.cells #[.int .i64 4] 3)) := (hs3).new ((Fr.refl no _).alloc _ _) (fun _ _ f => f)
       generalize w3.alloc (.cells #[.int .i64 4] 3) = x4 at *
       generalize w3.heap.size = zx4 at *
       refine ⟨fun _ => hs4, ?_⟩
       refine lateN #[true, true, true, true, true, true, true, true, true, true, true, false, false, false, false, false, false] ⟨#[ptr f 0, .agg #[.int .i64 38, .int .i64 (n : Int)], .slice (some ⟨b, off, none⟩) m cap, undef, ptr w.heap.size 0, undef, .int .i64 0, ptr w.heap.size 0, .int .i64 38, .bool true, .bool true, ptr w.heap.size 0, .int .i64 38, .bool false, .bool false, .bool false, undef, undef, undef, .bool false, .slice (some ⟨b, off, none⟩) m cap, ptr w.heap.size 1, .int .i64 (n : Int), .pointer (some ⟨b, off + n * 2, none⟩), .agg #[.int .i64 t.k, .string t.c], .bool false, ptr w.heap.size 0, .int .i64 38, .bool true, .bool true, ptr f 0, .slice (some ⟨b, off, none⟩) m cap, ptr w.heap.size 1, .int .i64 (n : Int), .pointer (some ⟨b, off + n * 2, none⟩), .agg #[.int .i64 t.k, .string t.c], .slice (some ⟨zx4, 0, none⟩) 1 1, undef, undef, undef, undef, undef, undef], []⟩ ?_
       refine late_all [11] (by kernel_rfl) (by simp) (fun jj hjj => ?_)
       obtain rfl := one_of hjj
       refine late_callW (f := 138) rfl (by kernel_rfl) (by kernel_rfl) (R := fun v w' => ∃ c, v = .slice (some ⟨c, 0, none⟩) 1 1 ∧ w'.heap[c]? = some (.cells #[.int .i64 4, .string H.obj] 44 (0, 0)) ∧ Fr no x4 w') ((of4_any x4 _ (ex4)).mono (fun e w' ⟨c, h1, h2⟩ => ⟨_, h1, c, rfl, h2⟩)) (fun v x5 hv => ?_)
       obtain ⟨c, rfl, e4, f4⟩ := hv
       have hs5 : Fr no w2 x5 := (hs4).new f4 (fun _ _ f => f)
       have HL4 : Hid (∀ w', Fr no x5 w' → w'.heap[c]? = some (.cells #[.int .i64 4, .string H.obj] 44 (0, 0))) := fun w' hf => hf.heap e4 (fun f => f)
       refine ⟨fun _ => hs5, ?_⟩
       refine lateN #[true, true, true, true, true, true, true, true, true, true, true, true, false, false, false, false, false] ⟨#[ptr f 0, .agg #[.int .i64 38, .int .i64 (n : Int)], .slice (some ⟨b, off, none⟩) m cap, undef, ptr w.heap.size 0, undef, .int .i64 0, ptr w.heap.size 0, .int .i64 38, .bool true, .bool true, ptr w.heap.size 0, .int .i64 38, .bool false, .bool false, .bool false, undef, undef, undef, .bool false, .slice (some ⟨b, off, none⟩) m cap, ptr w.heap.size 1, .int .i64 (n : Int), .pointer (some ⟨b, off + n * 2, none⟩), .agg #[.int .i64 t.k, .string t.c], .bool false, ptr w.heap.size 0, .int .i64 38, .bool true, .bool true, ptr f 0, .slice (some ⟨b, off, none⟩) m cap, ptr w.heap.size 1, .int .i64 (n : Int), .pointer (some ⟨b, off + n * 2, none⟩), .agg #[.int .i64 t.k, .string t.c], .slice (some ⟨zx4, 0, none⟩) 1 1, .slice (some ⟨c, 0, none⟩) 1 1, undef, undef, undef, undef, undef], []⟩ ?_
       refine late_pure 12 (ptr c 0) rfl (by kernel_rfl) (by kernel_rfl) (by kernel_rfl) (fun _ _ _ h => h) (by decide) (yieldsW (by kernel_rfl) (fun _ _ => by kernel_rfl)) (fun _ => hs5) ?_
       refine lateN #[true, true, true, true, true, true, true, true, true, true, true, true, true, false, false, false, false] ⟨#[ptr f 0, .agg #[.int .i64 38, .int .i64 (n : Int)], .slice (some ⟨b, off, none⟩) m cap, undef, ptr w.heap.size 0, undef, .int .i64 0, ptr w.heap.size 0, .int .i64 38, .bool true, .bool true, ptr w.heap.size 0, .int .i64 38, .bool false, .bool false, .bool false, undef, undef, undef, .bool false, .slice (some ⟨b, off, none⟩) m cap, ptr w.heap.size 1, .int .i64 (n : Int), .pointer (some ⟨b, off + n * 2, none⟩), .agg #[.int .i64 t.k, .string t.c], .bool false, ptr w.heap.size 0, .int .i64 38, .bool true, .bool true, ptr f 0, .slice (some ⟨b, off, none⟩) m cap, ptr w.heap.size 1, .int .i64 (n : Int), .pointer (some ⟨b, off + n * 2, none⟩), .agg #[.int .i64 t.k, .string t.c], .slice (some ⟨zx4, 0, none⟩) 1 1, .slice (some ⟨c, 0, none⟩) 1 1, ptr c 0, undef, undef, undef, undef], []⟩ ?_
       refine late_all [13] (by kernel_rfl) (by simp) (fun jj hjj => ?_)
       obtain rfl := one_of hjj
       refine late_opW rfl (by kernel_rfl) (ev_load 44 38 (.pointer (some ⟨c, 0, none⟩)) (.agg #[.int .i64 4, .string H.obj]) rfl (by kernel_rfl) (load_row x5 c 44 _ _ (HL4.out x5 (Fr.refl no _)) Tryz.underlying44 rfl (by kernel_rfl))) ?_
       refine ⟨fun _ => hs5, ?_⟩
       refine lateN #[true, true, true, true, true, true, true, true, true, true, true, true, true, true, false, false, false] ⟨#[ptr f 0, .agg #[.int .i64 38, .int .i64 (n : Int)], .slice (some ⟨b, off, none⟩) m cap, undef, ptr w.heap.size 0, undef, .int .i64 0, ptr w.heap.size 0, .int .i64 38, .bool true, .bool true, ptr w.heap.size 0, .int .i64 38, .bool false, .bool false, .bool false, undef, undef, undef, .bool false, .slice (some ⟨b, off, none⟩) m cap, ptr w.heap.size 1, .int .i64 (n : Int), .pointer (some ⟨b, off + n * 2, none⟩), .agg #[.int .i64 t.k, .string t.c], .bool false, ptr w.heap.size 0, .int .i64 38, .bool true, .bool true, ptr f 0, .slice (some ⟨b, off, none⟩) m cap, ptr w.heap.size 1, .int .i64 (n : Int), .pointer (some ⟨b, off + n * 2, none⟩), .agg #[.int .i64 t.k, .string t.c], .slice (some ⟨zx4, 0, none⟩) 1 1, .slice (some ⟨c, 0, none⟩) 1 1, ptr c 0, .agg #[.int .i64 4, .string H.obj], undef, undef, undef], []⟩ ?_
       refine late_all [14] (by kernel_rfl) (by simp) (fun jj hjj => ?_)
       obtain rfl := one_of hjj
       refine late_callW (f := 148) rfl (by kernel_rfl) (by kernel_rfl) (R := fun v w' => v = .bool (fitO t) ∧ Fr no x5 w') ((HFF.out x5 (hs5)).mono (fun e w' ⟨h1, h2⟩ => ⟨_, h1, rfl, h2⟩)) (fun v w9 hv => ?_)
       obtain ⟨rfl, f9⟩ := hv
       have h9 : Fr no w2 w9 := (hs5).new f9 (fun _ _ f => f)
       refine ⟨fun h => absurd h (by show ¬ (true = false); decide), ?_⟩
       refine late_pure 15 (.bool (!fitO t)) rfl (by kernel_rfl) (by kernel_rfl) (by kernel_rfl) (fun _ _ _ h => h) (by decide) (yieldsW (by kernel_rfl) (fun _ _ => by kernel_rfl)) (fun _ => h9) ?_
       refine late_pure 16 (.bool (!fitO t)) rfl (by kernel_rfl) (by kernel_rfl) (by kernel_rfl) (fun _ _ _ h => h) (by decide) (yieldsW (by kernel_rfl) (fun _ _ => by kernel_rfl)) (fun _ => h9) ?_
       exact lateN _ _ (CONT (zx4, c) w9 h9)
     · refine late_opW rfl (by kernel_rfl) (ev_build4 rfl) ?_
       have ex4 : (w3.alloc (.cells #[.int .i64 4] 3)).heap[w3.heap.size]? = some (.cells #[.int .i64 4] 3 (0, 0)) := heap_alloc_new w3 _
       have hs4 : Fr no w2 (w3.alloc (.cells #[.int .i64 4] 3)) := (hs3).new ((Fr.refl no _).alloc _ _) (fun _ _ f => f)
       generalize w3.alloc (.cells #[.int .i64 4] 3) = x4 at *
       generalize w3.heap.size = zx4 at *
       refine ⟨fun _ => hs4, ?_⟩
       refine lateN #[true, true, true, true, true, true, true, false, false, false, true, false, false, false, false, false, false] ⟨#[ptr f 0, .agg #[.int .i64 38, .int .i64 (n : Int)], .slice (some ⟨b, off, none⟩) m cap, undef, ptr w.heap.size 0, undef, .int .i64 0, ptr w.heap.size 0, .int .i64 38, .bool true, .bool true, ptr w.heap.size 0, .int .i64 38, .bool false, .bool false, .bool false, undef, undef, undef, .bool false, .slice (some ⟨b, off, none⟩) m cap, ptr w.heap.size 1, .int .i64 (n : Int), .pointer (some ⟨b, off + n * 2, none⟩), .agg #[.int .i64 t.k, .string t.c], .bool false, ptr w.heap.size 0, .int .i64 38, .bool true, .bool true, ptr f 0, .slice (some ⟨b, off, none⟩) m cap, ptr w.heap.size 1, undef, undef, undef, .slice (some ⟨zx4, 0, none⟩) 1 1, undef, undef, undef, undef, undef, undef], []⟩ ?_
       refine late_all [7, 11] (by kernel_rfl) (by simp) (fun jj hjj => ?_)
       replace hjj := two_of hjj
       rcases hjj with rfl | rfl
       · refine late_opW rfl (by kernel_rfl) (ev_load 3 32 (.pointer (some ⟨w.heap.size, 1, none⟩)) (.int .i64 (n : Int)) rfl (by kernel_rfl) (by simp [go_sem, cell_at (o := 1) (HL.out x4 (hs4)).1])) ?_
         refine ⟨fun _ => hs4, ?_⟩
         refine lateN #[true, true, true, true, true, true, true, true, false, false, true, false, false, false, false, false, false] ⟨#[ptr f 0, .agg #[.int .i64 38, .int .i64 (n : Int)], .slice (some ⟨b, off, none⟩) m cap, undef, ptr w.heap.size 0, undef, .int .i64 0, ptr w.heap.size 0, .int .i64 38, .bool true, .bool true, ptr w.heap.size 0, .int .i64 38, .bool false, .bool false, .bool false, undef, undef, undef, .bool false, .slice (some ⟨b, off, none⟩) m cap, ptr w.heap.size 1, .int .i64 (n : Int), .pointer (some ⟨b, off + n * 2, none⟩), .agg #[.int .i64 t.k, .string t.c], .bool false, ptr w.heap.size 0, .int .i64 38, .bool true, .bool true, ptr f 0, .slice (some ⟨b, off, none⟩) m cap, ptr w.heap.size 1, .int .i64 (n : Int), undef, undef, .slice (some ⟨zx4, 0, none⟩) 1 1, undef, undef, undef, undef, undef, undef], []⟩ ?_
         refine late_pure 8 (.pointer (some ⟨b, off + n * 2, none⟩)) rfl (by kernel_rfl) (by kernel_rfl) (by kernel_rfl) (fun _ _ _ h => h) (by decide) (yieldsW (by kernel_rfl) (fun _ _ => ev_index 42 31 33 (.slice (some ⟨b, off, none⟩) m cap) (.int .i64 (n : Int)) _ rfl (by kernel_rfl) (by kernel_rfl) (by simp [go_sem, hnm]))) (fun _ => hs4) ?_
         refine late_take 9 (.agg #[.int .i64 t.k, .string t.c]) rfl (by kernel_rfl) (by kernel_rfl) (by kernel_rfl) (fun _ _ _ h => h) (waits_of (by kernel_rfl)) (by decide) (by kernel_rfl) (yieldsW (by kernel_rfl) (fun w' hS => ev_load 44 34 (.pointer (some ⟨b, off + n * 2, none⟩)) _ rfl (by kernel_rfl) (run_loadAt_mid (P := Tryz.prog) w' b (off + n * 2) 44 [.int .i64 t.k, .string t.c] _ (HL.out w' hS).2 Tryz.underlying44 rfl (by kernel_rfl)))) (hs4) ?_
         refine lateN #[true, true, true, true, true, true, true, true, true, true, true, false, false, false, false, false, false] ⟨#[ptr f 0, .agg #[.int .i64 38, .int .i64 (n : Int)], .slice (some ⟨b, off, none⟩) m cap, undef, ptr w.heap.size 0, undef, .int .i64 0, ptr w.heap.size 0, .int .i64 38, .bool true, .bool true, ptr w.heap.size 0, .int .i64 38, .bool false, .bool false, .bool false, undef, undef, undef, .bool false, .slice (some ⟨b, off, none⟩) m cap, ptr w.heap.size 1, .int .i64 (n : Int), .pointer (some ⟨b, off + n * 2, none⟩), .agg #[.int .i64 t.k, .string t.c], .bool false, ptr w.heap.size 0, .int .i64 38, .bool true, .bool true, ptr f 0, .slice (some ⟨b, off, none⟩) m cap, ptr w.heap.size 1, .int .i64 (n : Int), .pointer (some ⟨b, off + n * 2, none⟩), .agg #[.int .i64 t.k, .string t.c], .slice (some ⟨zx4, 0, none⟩) 1 1, undef, undef, undef, undef, undef, undef], []⟩ ?_
         refine late_all [11] (by kernel_rfl) (by simp) (fun jj hjj => ?_)
         obtain rfl := one_of hjj
         refine late_callW (f := 138) rfl (by kernel_rfl) (by kernel_rfl) (R := fun v w' => ∃ c, v = .slice (some ⟨c, 0, none⟩) 1 1 ∧ w'.heap[c]? = some (.cells #[.int .i64 4, .string H.obj] 44 (0, 0)) ∧ Fr no x4 w') ((of4_any x4 _ (ex4)).mono (fun e w' ⟨c, h1, h2⟩ => ⟨_, h1, c, rfl, h2⟩)) (fun v x5 hv => ?_)
         obtain ⟨c, rfl, e4, f4⟩ := hv
         have hs5 : Fr no w2 x5 := (hs4).new f4 (fun _ _ f => f)
         have HL4 : Hid (∀ w', Fr no x5 w' → w'.heap[c]? = some (.cells #[.int .i64 4, .string H.obj] 44 (0, 0))) := fun w' hf => hf.heap e4 (fun f => f)
         refine ⟨fun _ => hs5, ?_⟩
         refine lateN #[true, true, true, true, true, true, true, true, true, true, true, true, false, false, false, false, false] ⟨#[ptr f 0, .agg #[.int .i64 38, .int .i64 (n : Int)], .slice (some ⟨b, off, none⟩) m cap, undef, ptr w.heap.size 0, undef, .int .i64 0, ptr w.heap.size 0, .int .i64 38, .bool true, .bool true, ptr w.heap.size 0, .int .i64 38, .bool false, .bool false, .bool false, undef, undef, undef, .bool false, .slice (some ⟨b, off, none⟩) m cap, ptr w.heap.size 1, .int .i64 (n : Int), .pointer (some ⟨b, off + n * 2, none⟩), .agg #[.int .i64 t.k, .string t.c], .bool false, ptr w.heap.size 0, .int .i64 38, .bool true, .bool true, ptr f 0, .slice (some ⟨b, off, none⟩) m cap, ptr w.heap.size 1, .int .i64 (n : Int), .pointer (some ⟨b, off + n * 2, none⟩), .agg #[.int .i64 t.k, .string t.c], .slice (some ⟨zx4, 0, none⟩) 1 1, .slice (some ⟨c, 0, none⟩) 1 1, undef, undef, undef, undef, undef], []⟩ ?_
         refine late_pure 12 (ptr c 0) rfl (by kernel_rfl) (by kernel_rfl) (by kernel_rfl) (fun _ _ _ h => h) (by decide) (yieldsW (by kernel_rfl) (fun _ _ => by kernel_rfl)) (fun _ => hs5) ?_
         refine lateN #[true, true, true, true, true, true, true, true, true, true, true, true, true, false, false, false, false] ⟨#[ptr f 0, .agg #[.int .i64 38, .int .i64 (n : Int)], .slice (some ⟨b, off, none⟩) m cap, undef, ptr w.heap.size 0, undef, .int .i64 0, ptr w.heap.size 0, .int .i64 38, .bool true, .bool true, ptr w.heap.size 0, .int .i64 38, .bool false, .bool false, .bool false, undef, undef, undef, .bool false, .slice (some ⟨b, off, none⟩) m cap, ptr w.heap.size 1, .int .i64 (n : Int), .pointer (some ⟨b, off + n * 2, none⟩), .agg #[.int .i64 t.k, .string t.c], .bool false, ptr w.heap.size 0, .int .i64 38, .bool true, .bool true, ptr f 0, .slice (some ⟨b, off, none⟩) m cap, ptr w.heap.size 1, .int .i64 (n : Int), .pointer (some ⟨b, off + n * 2, none⟩), .agg #[.int .i64 t.k, .string t.c], .slice (some ⟨zx4, 0, none⟩) 1 1, .slice (some ⟨c, 0, none⟩) 1 1, ptr c 0, undef, undef, undef, undef], []⟩ ?_
         refine late_all [13] (by kernel_rfl) (by simp) (fun jj hjj => ?_)
         obtain rfl := one_of hjj
         refine late_opW rfl (by kernel_rfl) (ev_load 44 38 (.pointer (some ⟨c, 0, none⟩)) (.agg #[.int .i64 4, .string H.obj]) rfl (by kernel_rfl) (load_row x5 c 44 _ _ (HL4.out x5 (Fr.refl no _)) Tryz.underlying44 rfl (by kernel_rfl))) ?_
         refine ⟨fun _ => hs5, ?_⟩
         refine lateN #[true, true, true, true, true, true, true, true, true, true, true, true, true, true, false, false, false] ⟨#[ptr f 0, .agg #[.int .i64 38, .int .i64 (n : Int)], .slice (some ⟨b, off, none⟩) m cap, undef, ptr w.heap.size 0, undef, .int .i64 0, ptr w.heap.size 0, .int .i64 38, .bool true, .bool true, ptr w.heap.size 0, .int .i64 38, .bool false, .bool false, .bool false, undef, undef, undef, .bool false, .slice (some ⟨b, off, none⟩) m cap, ptr w.heap.size 1, .int .i64 (n : Int), .pointer (some ⟨b, off + n * 2, none⟩), .agg #[.int .i64 t.k, .string t.c], .bool false, ptr w.heap.size 0, .int .i64 38, .bool true, .bool true, ptr f 0, .slice (some ⟨b, off, none⟩) m cap, ptr w.heap.size 1, .int .i64 (n : Int), .pointer (some ⟨b, off + n * 2, none⟩), .agg #[.int .i64 t.k, .string t.c], .slice (some ⟨zx4, 0, none⟩) 1 1, .slice (some ⟨c, 0, none⟩) 1 1, ptr c 0, .agg #[.int .i64 4, .string H.obj], undef, undef, undef], []⟩ ?_
         refine late_all [14] (by kernel_rfl) (by simp) (fun jj hjj => ?_)
         obtain rfl := one_of hjj
         refine late_callW (f := 148) rfl (by kernel_rfl) (by kernel_rfl) (R := fun v w' => v = .bool (fitO t) ∧ Fr no x5 w') ((HFF.out x5 (hs5)).mono (fun e w' ⟨h1, h2⟩ => ⟨_, h1, rfl, h2⟩)) (fun v w9 hv => ?_)
         obtain ⟨rfl, f9⟩ := hv
         have h9 : Fr no w2 w9 := (hs5).new f9 (fun _ _ f => f)
         refine ⟨fun h => absurd h (by show ¬ (true = false); decide), ?_⟩
         refine late_pure 15 (.bool (!fitO t)) rfl (by kernel_rfl) (by kernel_rfl) (by kernel_rfl) (fun _ _ _ h => h) (by decide) (yieldsW (by kernel_rfl) (fun _ _ => by kernel_rfl)) (fun _ => h9) ?_
         refine late_pure 16 (.bool (!fitO t)) rfl (by kernel_rfl) (by kernel_rfl) (by kernel_rfl) (fun _ _ _ h => h) (by decide) (yieldsW (by kernel_rfl) (fun _ _ => by kernel_rfl)) (fun _ => h9) ?_
         exact lateN _ _ (CONT (zx4, c) w9 h9)
       · refine late_callW (f := 138) rfl (by kernel_rfl) (by kernel_rfl) (R := fun v w' => ∃ c, v = .slice (some ⟨c, 0, none⟩) 1 1 ∧ w'.heap[c]? = some (.cells #[.int .i64 4, .string H.obj] 44 (0, 0)) ∧ Fr no x4 w') ((of4_any x4 _ (ex4)).mono (fun e w' ⟨c, h1, h2⟩ => ⟨_, h1, c, rfl, h2⟩)) (fun v x5 hv => ?_)
         obtain ⟨c, rfl, e4, f4⟩ := hv
         have hs5 : Fr no w2 x5 := (hs4).new f4 (fun _ _ f => f)
         have HL4 : Hid (∀ w', Fr no x5 w' → w'.heap[c]? = some (.cells #[.int .i64 4, .string H.obj] 44 (0, 0))) := fun w' hf => hf.heap e4 (fun f => f)
         refine ⟨fun _ => hs5, ?_⟩
         refine lateN #[true, true, true, true, true, true, true, false, false, false, true, true, false, false, false, false, false] ⟨#[ptr f 0, .agg #[.int .i64 38, .int .i64 (n : Int)], .slice (some ⟨b, off, none⟩) m cap, undef, ptr w.heap.size 0, undef, .int .i64 0, ptr w.heap.size 0, .int .i64 38, .bool true, .bool true, ptr w.heap.size 0, .int .i64 38, .bool false, .bool false, .bool false, undef, undef, undef, .bool false, .slice (some ⟨b, off, none⟩) m cap, ptr w.heap.size 1, .int .i64 (n : Int), .pointer (some ⟨b, off + n * 2, none⟩), .agg #[.int .i64 t.k, .string t.c], .bool false, ptr w.heap.size 0, .int .i64 38, .bool true, .bool true, ptr f 0, .slice (some ⟨b, off, none⟩) m cap, ptr w.heap.size 1, undef, undef, undef, .slice (some ⟨zx4, 0, none⟩) 1 1, .slice (some ⟨c, 0, none⟩) 1 1, undef, undef, undef, undef, undef], []⟩ ?_
         refine late_pure 12 (ptr c 0) rfl (by kernel_rfl) (by kernel_rfl) (by kernel_rfl) (fun _ _ _ h => h) (by decide) (yieldsW (by kernel_rfl) (fun _ _ => by kernel_rfl)) (fun _ => hs5) ?_
         refine lateN #[true, true, true, true, true, true, true, false, false, false, true, true, true, false, false, false, false] ⟨#[ptr f 0, .agg #[.int .i64 38, .int .i64 (n : Int)], .slice (some ⟨b, off, none⟩) m cap, undef, ptr w.heap.size 0, undef, .int .i64 0, ptr w.heap.size 0, .int .i64 38, .bool true, .bool true, ptr w.heap.size 0, .int .i64 38, .bool false, .bool false, .bool false, undef, undef, undef, .bool false, .slice (some ⟨b, off, none⟩) m cap, ptr w.heap.size 1, .int .i64 (n : Int), .pointer (some ⟨b, off + n * 2, none⟩), .agg #[.int .i64 t.k, .string t.c], .bool false, ptr w.heap.size 0, .int .i64 38, .bool true, .bool true, ptr f 0, .slice (some ⟨b, off, none⟩) m cap, ptr w.heap.size 1, undef, undef, undef, .slice (some ⟨zx4, 0, none⟩) 1 1, .slice (some ⟨c, 0, none⟩) 1 1, ptr c 0, undef, undef, undef, undef], []⟩ ?_
         refine late_all [7, 13] (by kernel_rfl) (by simp) (fun jj hjj => ?_)
         replace hjj := two_of hjj
         rcases hjj with rfl | rfl
         · refine late_opW rfl (by kernel_rfl) (ev_load 3 32 (.pointer (some ⟨w.heap.size, 1, none⟩)) (.int .i64 (n : Int)) rfl (by kernel_rfl) (by simp [go_sem, cell_at (o := 1) (HL.out x5 (hs5)).1])) ?_
           refine ⟨fun _ => hs5, ?_⟩
           refine lateN #[true, true, true, true, true, true, true, true, false, false, true, true, true, false, false, false, false] ⟨#[ptr f 0, .agg #[.int .i64 38, .int .i64 (n : Int)], .slice (some ⟨b, off, none⟩) m cap, undef, ptr w.heap.size 0, undef, .int .i64 0, ptr w.heap.size 0, .int .i64 38, .bool true, .bool true, ptr w.heap.size 0, .int .i64 38, .bool false, .bool false, .bool false, undef, undef, undef, .bool false, .slice (some ⟨b, off, none⟩) m cap, ptr w.heap.size 1, .int .i64 (n : Int), .pointer (some ⟨b, off + n * 2, none⟩), .agg #[.int .i64 t.k, .string t.c], .bool false, ptr w.heap.size 0, .int .i64 38, .bool true, .bool true, ptr f 0, .slice (some ⟨b, off, none⟩) m cap, ptr w.heap.size 1, .int .i64 (n : Int), undef, undef, .slice (some ⟨zx4, 0, none⟩) 1 1, .slice (some ⟨c, 0, none⟩) 1 1, ptr c 0, undef, undef, undef, undef], []⟩ ?_
           refine late_pure 8 (.pointer (some ⟨b, off + n * 2, none⟩)) rfl (by kernel_rfl) (by kernel_rfl) (by kernel_rfl) (fun _ _ _ h => h) (by decide) (yieldsW (by kernel_rfl) (fun _ _ => ev_index 42 31 33 (.slice (some ⟨b, off, none⟩) m cap) (.int .i64 (n : Int)) _ rfl (by kernel_rfl) (by kernel_rfl) (by simp [go_sem, hnm]))) (fun _ => hs5) ?_
           refine late_take 9 (.agg #[.int .i64 t.k, .string t.c]) rfl (by kernel_rfl) (by kernel_rfl) (by kernel_rfl) (fun _ _ _ h => h) (waits_of (by kernel_rfl)) (by decide) (by kernel_rfl) (yieldsW (by kernel_rfl) (fun w' hS => ev_load 44 34 (.pointer (some ⟨b, off + n * 2, none⟩)) _ rfl (by kernel_rfl) (run_loadAt_mid (P := Tryz.prog) w' b (off + n * 2) 44 [.int .i64 t.k, .string t.c] _ (HL.out w' hS).2 Tryz.underlying44 rfl (by kernel_rfl)))) (hs5) ?_
           refine lateN #[true, true, true, true, true, true, true, true, true, true, true, true, true, false, false, false, false] ⟨#[ptr f 0, .agg #[.int .i64 38, .int .i64 (n : Int)], .slice (some ⟨b, off, none⟩) m cap, undef, ptr w.heap.size 0, undef, .int .i64 0, ptr w.heap.size 0, .int .i64 38, .bool true, .bool true, ptr w.heap.size 0, .int .i64 38, .bool false, .bool false, .bool false, undef, undef, undef, .bool false, .slice (some ⟨b, off, none⟩) m cap, ptr w.heap.size 1, .int .i64 (n : Int), .pointer (some ⟨b, off + n * 2, none⟩), .agg #[.int .i64 t.k, .string t.c], .bool false, ptr w.heap.size 0, .int .i64 38, .bool true, .bool true, ptr f 0, .slice (some ⟨b, off, none⟩) m cap, ptr w.heap.size 1, .int .i64 (n : Int), .pointer (some ⟨b, off + n * 2, none⟩), .agg #[.int .i64 t.k, .string t.c], .slice (some ⟨zx4, 0, none⟩) 1 1, .slice (some ⟨c, 0, none⟩) 1 1, ptr c 0, undef, undef, undef, undef], []⟩ ?_
           refine late_all [13] (by kernel_rfl) (by simp) (fun jj hjj => ?_)
           obtain rfl := one_of hjj
           refine late_opW rfl (by kernel_rfl) (ev_load 44 38 (.pointer (some ⟨c, 0, none⟩)) (.agg #[.int .i64 4, .string H.obj]) rfl (by kernel_rfl) (load_row x5 c 44 _ _ (HL4.out x5 (Fr.refl no _)) Tryz.underlying44 rfl (by kernel_rfl))) ?_
           refine ⟨fun _ => hs5, ?_⟩
           refine lateN #[true, true, true, true, true, true, true, true, true, true, true, true, true, true, false, false, false] ⟨#[ptr f 0, .agg #[.int .i64 38, .int .i64 (n : Int)], .slice (some ⟨b, off, none⟩) m cap, undef, ptr w.heap.size 0, undef, .int .i64 0, ptr w.heap.size 0, .int .i64 38, .bool true, .bool true, ptr w.heap.size 0, .int .i64 38, .bool false, .bool false, .bool false, undef, undef, undef, .bool false, .slice (some ⟨b, off, none⟩) m cap, ptr w.heap.size 1, .int .i64 (n : Int), .pointer (some ⟨b, off + n * 2, none⟩), .agg #[.int .i64 t.k, .string t.c], .bool false, ptr w.heap.size 0, .int .i64 38, .bool true, .bool true, ptr f 0, .slice (some ⟨b, off, none⟩) m cap, ptr w.heap.size 1, .int .i64 (n : Int), .pointer (some ⟨b, off + n * 2, none⟩), .agg #[.int .i64 t.k, .string t.c], .slice (some ⟨zx4, 0, none⟩) 1 1, .slice (some ⟨c, 0, none⟩) 1 1, ptr c 0, .agg #[.int .i64 4, .string H.obj], undef, undef, undef], []⟩ ?_
           refine late_all [14] (by kernel_rfl) (by simp) (fun jj hjj => ?_)
           obtain rfl := one_of hjj
           refine late_callW (f := 148) rfl (by kernel_rfl) (by kernel_rfl) (R := fun v w' => v = .bool (fitO t) ∧ Fr no x5 w') ((HFF.out x5 (hs5)).mono (fun e w' ⟨h1, h2⟩ => ⟨_, h1, rfl, h2⟩)) (fun v w9 hv => ?_)
           obtain ⟨rfl, f9⟩ := hv
           have h9 : Fr no w2 w9 := (hs5).new f9 (fun _ _ f => f)
           refine ⟨fun h => absurd h (by show ¬ (true = false); decide), ?_⟩
           refine late_pure 15 (.bool (!fitO t)) rfl (by kernel_rfl) (by kernel_rfl) (by kernel_rfl) (fun _ _ _ h => h) (by decide) (yieldsW (by kernel_rfl) (fun _ _ => by kernel_rfl)) (fun _ => h9) ?_
           refine late_pure 16 (.bool (!fitO t)) rfl (by kernel_rfl) (by kernel_rfl) (by kernel_rfl) (fun _ _ _ h => h) (by decide) (yieldsW (by kernel_rfl) (fun _ _ => by kernel_rfl)) (fun _ => h9) ?_
           exact lateN _ _ (CONT (zx4, c) w9 h9)
         · refine late_opW rfl (by kernel_rfl) (ev_load 44 38 (.pointer (some ⟨c, 0, none⟩)) (.agg #[.int .i64 4, .string H.obj]) rfl (by kernel_rfl) (load_row x5 c 44 _ _ (HL4.out x5 (Fr.refl no _)) Tryz.underlying44 rfl (by kernel_rfl))) ?_
           refine ⟨fun _ => hs5, ?_⟩
           refine lateN #[true, true, true, true, true, true, true, false, false, false, true, true, true, true, false, false, false] ⟨#[ptr f 0, .agg #[.int .i64 38, .int .i64 (n : Int)], .slice (some ⟨b, off, none⟩) m cap, undef, ptr w.heap.size 0, undef, .int .i64 0, ptr w.heap.size 0, .int .i64 38, .bool true, .bool true, ptr w.heap.size 0, .int .i64 38, .bool false, .bool false, .bool false, undef, undef, undef, .bool false, .slice (some ⟨b, off, none⟩) m cap, ptr w.heap.size 1, .int .i64 (n : Int), .pointer (some ⟨b, off + n * 2, none⟩), .agg #[.int .i64 t.k, .string t.c], .bool false, ptr w.heap.size 0, .int .i64 38, .bool true, .bool true, ptr f 0, .slice (some ⟨b, off, none⟩) m cap, ptr w.heap.size 1, undef, undef, undef, .slice (some ⟨zx4, 0, none⟩) 1 1, .slice (some ⟨c, 0, none⟩) 1 1, ptr c 0, .agg #[.int .i64 4, .string H.obj], undef, undef, undef], []⟩ ?_
           refine late_all [7] (by kernel_rfl) (by simp) (fun jj hjj => ?_)
           obtain rfl := one_of hjj
           refine late_opW rfl (by kernel_rfl) (ev_load 3 32 (.pointer (some ⟨w.heap.size, 1, none⟩)) (.int .i64 (n : Int)) rfl (by kernel_rfl) (by simp [go_sem, cell_at (o := 1) (HL.out x5 (hs5)).1])) ?_
           refine ⟨fun _ => hs5, ?_⟩
           refine lateN #[true, true, true, true, true, true, true, true, false, false, true, true, true, true, false, false, false] ⟨#[ptr f 0, .agg #[.int .i64 38, .int .i64 (n : Int)], .slice (some ⟨b, off, none⟩) m cap, undef, ptr w.heap.size 0, undef, .int .i64 0, ptr w.heap.size 0, .int .i64 38, .bool true, .bool true, ptr w.heap.size 0, .int .i64 38, .bool false, .bool false, .bool false, undef, undef, undef, .bool false, .slice (some ⟨b, off, none⟩) m cap, ptr w.heap.size 1, .int .i64 (n : Int), .pointer (some ⟨b, off + n * 2, none⟩), .agg #[.int .i64 t.k, .string t.c], .bool false, ptr w.heap.size 0, .int .i64 38, .bool true, .bool true, ptr f 0, .slice (some ⟨b, off, none⟩) m cap, ptr w.heap.size 1, .int .i64 (n : Int), undef, undef, .slice (some ⟨zx4, 0, none⟩) 1 1, .slice (some ⟨c, 0, none⟩) 1 1, ptr c 0, .agg #[.int .i64 4, .string H.obj], undef, undef, undef], []⟩ ?_
           refine late_pure 8 (.pointer (some ⟨b, off + n * 2, none⟩)) rfl (by kernel_rfl) (by kernel_rfl) (by kernel_rfl) (fun _ _ _ h => h) (by decide) (yieldsW (by kernel_rfl) (fun _ _ => ev_index 42 31 33 (.slice (some ⟨b, off, none⟩) m cap) (.int .i64 (n : Int)) _ rfl (by kernel_rfl) (by kernel_rfl) (by simp [go_sem, hnm]))) (fun _ => hs5) ?_
           refine late_take 9 (.agg #[.int .i64 t.k, .string t.c]) rfl (by kernel_rfl) (by kernel_rfl) (by kernel_rfl) (fun _ _ _ h => h) (waits_of (by kernel_rfl)) (by decide) (by kernel_rfl) (yieldsW (by kernel_rfl) (fun w' hS => ev_load 44 34 (.pointer (some ⟨b, off + n * 2, none⟩)) _ rfl (by kernel_rfl) (run_loadAt_mid (P := Tryz.prog) w' b (off + n * 2) 44 [.int .i64 t.k, .string t.c] _ (HL.out w' hS).2 Tryz.underlying44 rfl (by kernel_rfl)))) (hs5) ?_
           refine lateN #[true, true, true, true, true, true, true, true, true, true, true, true, true, true, false, false, false] ⟨#[ptr f 0, .agg #[.int .i64 38, .int .i64 (n : Int)], .slice (some ⟨b, off, none⟩) m cap, undef, ptr w.heap.size 0, undef, .int .i64 0, ptr w.heap.size 0, .int .i64 38, .bool true, .bool true, ptr w.heap.size 0, .int .i64 38, .bool false, .bool false, .bool false, undef, undef, undef, .bool false, .slice (some ⟨b, off, none⟩) m cap, ptr w.heap.size 1, .int .i64 (n : Int), .pointer (some ⟨b, off + n * 2, none⟩), .agg #[.int .i64 t.k, .string t.c], .bool false, ptr w.heap.size 0, .int .i64 38, .bool true, .bool true, ptr f 0, .slice (some ⟨b, off, none⟩) m cap, ptr w.heap.size 1, .int .i64 (n : Int), .pointer (some ⟨b, off + n * 2, none⟩), .agg #[.int .i64 t.k, .string t.c], .slice (some ⟨zx4, 0, none⟩) 1 1, .slice (some ⟨c, 0, none⟩) 1 1, ptr c 0, .agg #[.int .i64 4, .string H.obj], undef, undef, undef], []⟩ ?_
           refine late_all [14] (by kernel_rfl) (by simp) (fun jj hjj => ?_)
           obtain rfl := one_of hjj
           refine late_callW (f := 148) rfl (by kernel_rfl) (by kernel_rfl) (R := fun v w' => v = .bool (fitO t) ∧ Fr no x5 w') ((HFF.out x5 (hs5)).mono (fun e w' ⟨h1, h2⟩ => ⟨_, h1, rfl, h2⟩)) (fun v w9 hv => ?_)
           obtain ⟨rfl, f9⟩ := hv
           have h9 : Fr no w2 w9 := (hs5).new f9 (fun _ _ f => f)
           refine ⟨fun h => absurd h (by show ¬ (true = false); decide), ?_⟩
           refine late_pure 15 (.bool (!fitO t)) rfl (by kernel_rfl) (by kernel_rfl) (by kernel_rfl) (fun _ _ _ h => h) (by decide) (yieldsW (by kernel_rfl) (fun _ _ => by kernel_rfl)) (fun _ => h9) ?_
           refine late_pure 16 (.bool (!fitO t)) rfl (by kernel_rfl) (by kernel_rfl) (by kernel_rfl) (fun _ _ _ h => h) (by decide) (yieldsW (by kernel_rfl) (fun _ _ => by kernel_rfl)) (fun _ => h9) ?_
           exact lateN _ _ (CONT (zx4, c) w9 h9)
   · go_enter Tryz.func149, Tryz.ntmps149
     go_wp2_with fail
     refine IT.mono ?_
     rintro e w2 ⟨rfl, f2⟩
     have hs3 : Fr no w2 w2.drew := (Fr.refl no w2).drew
     have HL : Hid (∀ w', Fr no w2 w' → w'.heap[w.heap.size]? = some (.cells #[.int .i64 39, .int .i64 (n : Int)] 27 (0, 0)) ∧ (∀ j u, ([.int .i64 t.k, .string t.c] : List Value)[j]? = some u → w'.cell? ⟨b, off + n * 2 + j, none⟩ = some u)) := fun w' hf => HL0.out w' (f2.new hf (fun _ _ f => f))
     have HFF : Hid (∀ w', Fr no w2 w' → Calls Tryz.prog 148 #[.pointer (some ⟨f, 0, none⟩), .agg #[.int .i64 t.k, .string t.c], .agg #[.int .i64 4, .string H.obj]] w' fun e w3 => e = .returned (.bool (fitO t)) ∧ Fr no w' w3) := fun w' hf => HFF0.out w' (f2.new hf (fun _ _ f => f))
     have HG : Hid (Fr no w w2) := HF.out.new f2 (fun _ _ f => f)
     clear IT f2 HL0 HFF0 z0 z1 d0 d1
     go_wp2_with fail
     generalize hw3 : w2.drew = w3 at *
     refine late_begin (S := fun w' => Fr no w2 w') (g := 14) (by kernel_rfl) ?_
     rw [hw3]
     refine with_cont (m := 0) (Nat × Nat) #[true, true, true, true, true, true, true, true, true, true, true, true, true, true, true, true, true] (fun x => { tmps := #[ptr f 0, .agg #[.int .i64 39, .int .i64 (n : Int)], .slice (some ⟨b, off, none⟩) m cap, undef, ptr w.heap.size 0, undef, .int .i64 0, ptr w.heap.size 0, .int .i64 39, .bool true, .bool true, ptr w.heap.size 0, .int .i64 39, .bool true, .bool true, .bool true, ptr w.heap.size 0, .int .i64 39, .bool false, .bool false, .slice (some ⟨b, off, none⟩) m cap, ptr w.heap.size 1, .int .i64 (n : Int), .pointer (some ⟨b, off + n * 2, none⟩), .agg #[.int .i64 t.k, .string t.c], .bool false, ptr w.heap.size 0, .int .i64 39, .bool true, .bool true, ptr f 0, .slice (some ⟨b, off, none⟩) m cap, ptr w.heap.size 1, .int .i64 (n : Int), .pointer (some ⟨b, off + n * 2, none⟩), .agg #[.int .i64 t.k, .string t.c], .slice (some ⟨x.1, 0, none⟩) 1 1, .slice (some ⟨x.2, 0, none⟩) 1 1, .pointer (some ⟨x.2, 0, none⟩), .agg #[.int .i64 4, .string H.obj], .bool (fitO t), .bool (!fitO t), .bool (!fitO t)], defers := [] }) (fun x w' => Fr no w2 w') ?_ (fun CONT => ?_)
     · rintro ⟨z, c⟩ w9 h9
       simp only
       refine late_done (by kernel_rfl) ?_
       cases hfo : fitO t with
       | true =>
        rw [hfo] at HE'
        clear HL HFF
        go_wp2_with fail
        go_ret
        rw [HE'.out]
        exact ⟨rfl, HG.out.new h9 (fun _ _ f => f)⟩
       | false =>
        rw [hfo] at HE'
        clear HL HFF
        go_wp2_with fail
        go_ret
        rw [HE'.out]
        exact ⟨rfl, HG.out.new h9 (fun _ _ f => f)⟩
     refine late_pure 0 (ptr w.heap.size 0) rfl (by kernel_rfl) (by kernel_rfl) (by kernel_rfl) (fun _ _ _ h => h) (by decide) (yieldsW (by kernel_rfl) (fun _ _ => ev_field 27 4 0 (ptr w.heap.size 0) _ rfl (by kernel_rfl) (by kernel_rfl))) (fun _ => hs3) ?_
     refine late_all [1] (by kernel_rfl) (by simp) (fun jj hjj => ?_)
     obtain rfl := one_of hjj
     refine late_opW rfl (by kernel_rfl) (ev_load 3 26 (.pointer (some ⟨w.heap.size, 0, none⟩)) (.int .i64 39) rfl (by kernel_rfl) (by simp [go_sem, cell_at (o := 0) (HL.out w3 hs3).1])) ?_
     refine ⟨fun _ => hs3, ?_⟩
     refine late_pure 2 (.bool true) rfl (by kernel_rfl) (by kernel_rfl) (by kernel_rfl) (fun _ _ _ h => h) (by decide) (yieldsW (by kernel_rfl) (fun _ _ => by kernel_rfl)) (fun _ => hs3) ?_
     refine late_pure 3 (.bool true) rfl (by kernel_rfl) (by kernel_rfl) (by kernel_rfl) (fun _ _ _ h => h) (by decide) (yieldsW (by kernel_rfl) (fun _ _ => ev_move 28 _ rfl (by kernel_rfl))) (fun _ => hs3) ?_
     refine late_pure 4 (ptr f 0) rfl (by kernel_rfl) (by kernel_rfl) (by kernel_rfl) (fun _ _ _ h => h) (by decide) (yieldsW (by kernel_rfl) (fun _ _ => ev_move 0 _ rfl (by kernel_rfl))) (fun _ => hs3) ?_
     refine late_pure 5 (.slice (some ⟨b, off, none⟩) m cap) rfl (by kernel_rfl) (by kernel_rfl) (by kernel_rfl) (fun _ _ _ h => h) (by decide) (yieldsW (by kernel_rfl) (fun _ _ => ev_move 2 _ rfl (by kernel_rfl))) (fun _ => hs3) ?_
     refine late_pure 6 (ptr w.heap.size 1) rfl (by kernel_rfl) (by kernel_rfl) (by kernel_rfl) (fun _ _ _ h => h) (by decide) (yieldsW (by kernel_rfl) (fun _ _ => ev_field 27 4 1 (ptr w.heap.size 0) _ rfl (by kernel_rfl) (by kernel_rfl))) (fun _ => hs3) ?_
     refine lateN #[true, true, true, true, true, true, true, false, false, false, false, false, false, false, false, false, false] ⟨#[ptr f 0, .agg #[.int .i64 39, .int .i64 (n : Int)], .slice (some ⟨b, off, none⟩) m cap, undef, ptr w.heap.size 0, undef, .int .i64 0, ptr w.heap.size 0, .int .i64 39, .bool true, .bool true, ptr w.heap.size 0, .int .i64 39, .bool true, .bool true, .bool true, ptr w.heap.size 0, .int .i64 39, .bool false, .bool false, .slice (some ⟨b, off, none⟩) m cap, ptr w.heap.size 1, .int .i64 (n : Int), .pointer (some ⟨b, off + n * 2, none⟩), .agg #[.int .i64 t.k, .string t.c], .bool false, ptr w.heap.size 0, .int .i64 39, .bool true, .bool true, ptr f 0, .slice (some ⟨b, off, none⟩) m cap, ptr w.heap.size 1, undef, undef, undef, undef, undef, undef, undef, undef, undef, undef], []⟩ ?_
     refine late_all [7, 10] (by kernel_rfl) (by simp) (fun jj hjj => ?_)
     replace hjj := two_of hjj
     rcases hjj with rfl | rfl
     · refine late_opW rfl (by kernel_rfl) (ev_load 3 32 (.pointer (some ⟨w.heap.size, 1, none⟩)) (.int .i64 (n : Int)) rfl (by kernel_rfl) (by simp [go_sem, cell_at (o := 1) (HL.out w3 (hs3)).1])) ?_
       refine ⟨fun _ => hs3, ?_⟩
       refine lateN #[true, true, true, true, true, true, true, true, false, false, false, false, false, false, false, false, false] ⟨#[ptr f 0, .agg #[.int .i64 39, .int .i64 (n : Int)], .slice (some ⟨b, off, none⟩) m cap, undef, ptr w.heap.size 0, undef, .int .i64 0, ptr w.heap.size 0, .int .i64 39, .bool true, .bool true, ptr w.heap.size 0, .int .i64 39, .bool true, .bool true, .bool true, ptr w.heap.size 0, .int .i64 39, .bool false, .bool false, .slice (some ⟨b, off, none⟩) m cap, ptr w.heap.size 1, .int .i64 (n : Int), .pointer (some ⟨b, off + n * 2, none⟩), .agg #[.int .i64 t.k, .string t.c], .bool false, ptr w.heap.size 0, .int .i64 39, .bool true, .bool true, ptr f 0, .slice (some ⟨b, off, none⟩) m cap, ptr w.heap.size 1, .int .i64 (n : Int), undef, undef, undef, undef, undef, undef, undef, undef, undef], []⟩ ?_
       refine late_pure 8 (.pointer (some ⟨b, off + n * 2, none⟩)) rfl (by kernel_rfl) (by kernel_rfl) (by kernel_rfl) (fun _ _ _ h => h) (by decide) (yieldsW (by kernel_rfl) (fun _ _ => ev_index 42 31 33 (.slice (some ⟨b, off, none⟩) m cap) (.int .i64 (n : Int)) _ rfl (by kernel_rfl) (by kernel_rfl) (by simp [go_sem, hnm]))) (fun _ => hs3) ?_
       refine late_take 9 (.agg #[.int .i64 t.k, .string t.c]) rfl (by kernel_rfl) (by kernel_rfl) (by kernel_rfl) (fun _ _ _ h => h) (waits_of (by kernel_rfl)) (by decide) (by kernel_rfl) (yieldsW (by kernel_rfl) (fun w' hS => ev_load 44 34 (.pointer (some ⟨b, off + n * 2, none⟩)) _ rfl (by kernel_rfl) (run_loadAt_mid (P := Tryz.prog) w' b (off + n * 2) 44 [.int .i64 t.k, .string t.c] _ (HL.out w' hS).2 Tryz.underlying44 rfl (by kernel_rfl)))) (hs3) ?_
       refine lateN #[true, true, true, true, true, true, true, true, true, true, false, false, false, false, false, false, false] ⟨#[ptr f 0, .agg #[.int .i64 39, .int .i64 (n : Int)], .slice (some ⟨b, off, none⟩) m cap, undef, ptr w.heap.size 0, undef, .int .i64 0, ptr w.heap.size 0, .int .i64 39, .bool true, .bool true, ptr w.heap.size 0, .int .i64 39, .bool true, .bool true, .bool true, ptr w.heap.size 0, .int .i64 39, .bool false, .bool false, .slice (some ⟨b, off, none⟩) m cap, ptr w.heap.size 1, .int .i64 (n : Int), .pointer (some ⟨b, off + n * 2, none⟩), .agg #[.int .i64 t.k, .string t.c], .bool false, ptr w.heap.size 0, .int .i64 39, .bool true, .bool true, ptr f 0, .slice (some ⟨b, off, none⟩) m cap, ptr w.heap.size 1, .int .i64 (n : Int), .pointer (some ⟨b, off + n * 2, none⟩), .agg #[.int .i64 t.k, .string t.c], undef, undef, undef, undef, undef, undef, undef], []⟩ ?_
       refine late_all [10] (by kernel_rfl) (by simp) (fun jj hjj => ?_)
       obtain rfl := one_of hjj
       refine late_opW rfl (by kernel_rfl) (ev_build4 rfl) ?_
       have ex4 : (w3.alloc (.cells #[.int .i64 4] 3)).heap[w3.heap.size]? = some (.cells #[.int .i64 4] 3 (0, 0)) := heap_alloc_new w3 _
       have hs4 : Fr no w2 (w3.alloc (.cells #[.int .i64 4] 3)) := (hs3).new ((Fr.refl no _).alloc _ _) (fun _ _ f => f)
       generalize w3.alloc (.cells #[.int .i64 4] 3) = x4 at *
       generalize w3.heap.size = zx4 at *
       refine ⟨fun _ => hs4, ?_⟩
       refine lateN #[true, true, true, true, true, true, true, true, true, true, true, false, false, false, false, false, false] ⟨#[ptr f 0, .agg #[.int .i64 39, .int .i64 (n : Int)], .slice (some ⟨b, off, none⟩) m cap, undef, ptr w.heap.size 0, undef, .int .i64 0, ptr w.heap.size 0, .int .i64 39, .bool true, .bool true, ptr w.heap.size 0, .int .i64 39, .bool true, .bool true, .bool true, ptr w.heap.size 0, .int .i64 39, .bool false, .bool false, .slice (some ⟨b, off, none⟩) m cap, ptr w.heap.size 1, .int .i64 (n : Int), .pointer (some ⟨b, off + n * 2, none⟩), .agg #[.int .i64 t.k, .string t.c], .bool false, ptr w.heap.size 0, .int .i64 39, .bool true, .bool true, ptr f 0, .slice (some ⟨b, off, none⟩) m cap, ptr w.heap.size 1, .int .i64 (n : Int), .pointer (some ⟨b, off + n * 2, none⟩), .agg #[.int .i64 t.k, .string t.c], .slice (some ⟨zx4, 0, none⟩) 1 1, undef, undef, undef, undef, undef, undef], []⟩ ?_
       refine late_all [11] (by kernel_rfl) (by simp) (fun jj hjj => ?_)
       obtain rfl := one_of hjj
       refine late_callW (f := 138) rfl (by kernel_rfl) (by kernel_rfl) (R := fun v w' => ∃ c, v = .slice (some ⟨c, 0, none⟩) 1 1 ∧ w'.heap[c]? = some (.cells #[.int .i64 4, .string H.obj] 44 (0, 0)) ∧ Fr no x4 w') ((of4_any x4 _ (ex4)).mono (fun e w' ⟨c, h1, h2⟩ => ⟨_, h1, c, rfl, h2⟩)) (fun v x5 hv => ?_)
       obtain ⟨c, rfl, e4, f4⟩ := hv
       have hs5 : Fr no w2 x5 := (hs4).new f4 (fun _ _ f => f)
       have HL4 : Hid (∀ w', Fr no x5 w' → w'.heap[c]? = some (.cells #[.int .i64 4, .string H.obj] 44 (0, 0))) := fun w' hf => hf.heap e4 (fun f => f)
       refine ⟨fun _ => hs5, ?_⟩
       refine lateN #[true, true, true, true, true, true, true, true, true, true, true, true, false, false, false, false, false] ⟨#[ptr f 0, .agg #[.int .i64 39, .int .i64 (n : Int)], .slice (some ⟨b, off, none⟩) m cap, undef, ptr w.heap.size 0, undef, .int .i64 0, ptr w.heap.size 0, .int .i64 39, .bool true, .bool true, ptr w.heap.size 0, .int .i64 39, .bool true, .bool true, .bool true, ptr w.heap.size 0, .int .i64 39, .bool false, .bool false, .slice (some ⟨b, off, none⟩) m cap, ptr w.heap.size 1, .int .i64 (n : Int), .pointer (some ⟨b, off + n * 2, none⟩), .agg #[.int .i64 t.k, .string t.c], .bool false, ptr w.heap.size 0, .int .i64 39, .bool true, .bool true, ptr f 0, .slice (some ⟨b, off, none⟩) m cap, ptr w.heap.size 1, .int .i64 (n : Int), .pointer (some ⟨b, off + n * 2, none⟩), .agg #[.int .i64 t.k, .string t.c], .slice (some ⟨zx4, 0, none⟩) 1 1, .slice (some ⟨c, 0, none⟩) 1 1, undef, undef, undef, undef, undef], []⟩ ?_
       refine late_pure 12 (ptr c 0) rfl (by kernel_rfl) (by kernel_rfl) (by kernel_rfl) (fun _ _ _ h => h) (by decide) (yieldsW (by kernel_rfl) (fun _ _ => by kernel_rfl)) (fun _ => hs5) ?_
       refine lateN #[true, true, true, true, true, true, true, true, true, true, true, true, true, false, false, false, false] ⟨#[ptr f 0, .agg #[.int .i64 39, .int .i64 (n : Int)], .slice (some ⟨b, off, none⟩) m cap, undef, ptr w.heap.size 0, undef, .int .i64 0, ptr w.heap.size 0, .int .i64 39, .bool true, .bool true, ptr w.heap.size 0, .int .i64 39, .bool true, .bool true, .bool true, ptr w.heap.size 0, .int .i64 39, .bool false, .bool false, .slice (some ⟨b, off, none⟩) m cap, ptr w.heap.size 1, .int .i64 (n : Int), .pointer (some ⟨b, off + n * 2, none⟩), .agg #[.int .i64 t.k, .string t.c], .bool false, ptr w.heap.size 0, .int .i64 39, .bool true, .bool true, ptr f 0, .slice (some ⟨b, off, none⟩) m cap, ptr w.heap.size 1, .int .i64 (n : Int), .pointer (some ⟨b, off + n * 2, none⟩), .agg #[.int .i64 t.k, .string t.c], .slice (some ⟨zx4, 0, none⟩) 1 1, .slice (some ⟨c, 0, none⟩) 1 1, ptr c 0, undef, undef, undef, undef], []⟩ ?_
       refine late_all [13] (by kernel_rfl) (by simp) (fun jj hjj => ?_)
       obtain rfl := one_of hjj
       refine late_opW rfl (by kernel_rfl) (ev_load 44 38 (.pointer (some ⟨c, 0, none⟩)) (.agg #[.int .i64 4, .string H.obj]) rfl (by kernel_rfl) (load_row x5 c 44 _ _ (HL4.out x5 (Fr.refl no _)) Tryz.underlying44 rfl (by kernel_rfl))) ?_
       refine ⟨fun _ => hs5, ?_⟩
       refine lateN #[true, true, true, true, true, true, true, true, true, true, true, true, true, true, false, false, false] ⟨#[ptr f 0, .agg #[.int .i64 39, .int .i64 (n : Int)], .slice (some ⟨b, off, none⟩) m cap, undef, ptr w.heap.size 0, undef, .int .i64 0, ptr w.heap.size 0, .int .i64 39, .bool true, .bool true, ptr w.heap.size 0, .int .i64 39, .bool true, .bool true, .bool true, ptr w.heap.size 0, .int .i64 39, .bool false, .bool false, .slice (some ⟨b, off, none⟩) m cap, ptr w.heap.size 1, .int .i64 (n : Int), .pointer (some ⟨b, off + n * 2, none⟩), .agg #[.int .i64 t.k, .string t.c], .bool false, ptr w.heap.size 0, .int .i64 39, .bool true, .bool true, ptr f 0, .slice (some ⟨b, off, none⟩) m cap, ptr w.heap.size 1, .int .i64 (n : Int), .pointer (some ⟨b, off + n * 2, none⟩), .agg #[.int .i64 t.k, .string t.c], .slice (some ⟨zx4, 0, none⟩) 1 1, .slice (some ⟨c, 0, none⟩) 1 1, ptr c 0, .agg #[.int .i64 4, .string H.obj], undef, undef, undef], []⟩ ?_
       refine late_all [14] (by kernel_rfl) (by simp) (fun jj hjj => ?_)
       obtain rfl := one_of hjj
       refine late_callW (f := 148) rfl (by kernel_rfl) (by kernel_rfl) (R := fun v w' => v = .bool (fitO t) ∧ Fr no x5 w') ((HFF.out x5 (hs5)).mono (fun e w' ⟨h1, h2⟩ => ⟨_, h1, rfl, h2⟩)) (fun v w9 hv => ?_)
       obtain ⟨rfl, f9⟩ := hv
       have h9 : Fr no w2 w9 := (hs5).new f9 (fun _ _ f => f)
       refine ⟨fun h => absurd h (by show ¬ (true = false); decide), ?_⟩
       refine late_pure 15 (.bool (!fitO t)) rfl (by kernel_rfl) (by kernel_rfl) (by kernel_rfl) (fun _ _ _ h => h) (by decide) (yieldsW (by kernel_rfl) (fun _ _ => by kernel_rfl)) (fun _ => h9) ?_
       refine late_pure 16 (.bool (!fitO t)) rfl (by kernel_rfl) (by kernel_rfl) (by kernel_rfl) (fun _ _ _ h => h) (by decide) (yieldsW (by kernel_rfl) (fun _ _ => by kernel_rfl)) (fun _ => h9) ?_
       exact lateN _ _ (CONT (zx4, c) w9 h9)
     · refine late_opW rfl (by kernel_rfl) (ev_build4 rfl) ?_
       have ex4 : (w3.alloc (.cells #[.int .i64 4] 3)).heap[w3.heap.size]? = some (.cells #[.int .i64 4] 3 (0, 0)) := heap_alloc_new w3 _
       have hs4 : Fr no w2 (w3.alloc (.cells #[.int .i64 4] 3)) := (hs3).new ((Fr.refl no _).alloc _ _) (fun _ _ f => f)
       generalize w3.alloc (.cells #[.int .i64 4] 3) = x4 at *
       generalize w3.heap.size = zx4 at *
       refine ⟨fun _ => hs4, ?_⟩
       refine lateN #[true, true, true, true, true, true, true, false, false, false, true, false, false, false, false, false, false] ⟨#[ptr f 0, .agg #[.int .i64 39, .int .i64 (n : Int)], .slice (some ⟨b, off, none⟩) m cap, undef, ptr w.heap.size 0, undef, .int .i64 0, ptr w.heap.size 0, .int .i64 39, .bool true, .bool true, ptr w.heap.size 0, .int .i64 39, .bool true, .bool true, .bool true, ptr w.heap.size 0, .int .i64 39, .bool false, .bool false, .slice (some ⟨b, off, none⟩) m cap, ptr w.heap.size 1, .int .i64 (n : Int), .pointer (some ⟨b, off + n * 2, none⟩), .agg #[.int .i64 t.k, .string t.c], .bool false, ptr w.heap.size 0, .int .i64 39, .bool true, .bool true, ptr f 0, .slice (some ⟨b, off, none⟩) m cap, ptr w.heap.size 1, undef, undef, undef, .slice (some ⟨zx4, 0, none⟩) 1 1, undef, undef, undef, undef, undef, undef], []⟩ ?_
       refine late_all [7, 11] (by kernel_rfl) (by simp) (fun jj hjj => ?_)
       replace hjj := two_of hjj
       rcases hjj with rfl | rfl
       · refine late_opW rfl (by kernel_rfl) (ev_load 3 32 (.pointer (some ⟨w.heap.size, 1, none⟩)) (.int .i64 (n : Int)) rfl (by kernel_rfl) (by simp [go_sem, cell_at (o := 1) (HL.out x4 (hs4)).1])) ?_
         refine ⟨fun _ => hs4, ?_⟩
         refine lateN #[true, true, true, true, true, true, true, true, false, false, true, false, false, false, false, false, false] ⟨#[ptr f 0, .agg #[.int .i64 39, .int .i64 (n : Int)], .slice (some ⟨b, off, none⟩) m cap, undef, ptr w.heap.size 0, undef, .int .i64 0, ptr w.heap.size 0, .int .i64 39, .bool true, .bool true, ptr w.heap.size 0, .int .i64 39, .bool true, .bool true, .bool true, ptr w.heap.size 0, .int .i64 39, .bool false, .bool false, .slice (some ⟨b, off, none⟩) m cap, ptr w.heap.size 1, .int .i64 (n : Int), .pointer (some ⟨b, off + n * 2, none⟩), .agg #[.int .i64 t.k, .string t.c], .bool false, ptr w.heap.size 0, .int .i64 39, .bool true, .bool true, ptr f 0, .slice (some ⟨b, off, none⟩) m cap, ptr w.heap.size 1, .int .i64 (n : Int), undef, undef, .slice (some ⟨zx4, 0, none⟩) 1 1, undef, undef, undef, undef, undef, undef], []⟩ ?_
         refine late_pure 8 (.pointer (some ⟨b, off + n * 2, none⟩)) rfl (by kernel_rfl) (by kernel_rfl) (by kernel_rfl) (fun _ _ _ h => h) (by decide) (yieldsW (by kernel_rfl) (fun _ _ => ev_index 42 31 33 (.slice (some ⟨b, off, none⟩) m cap) (.int .i64 (n : Int)) _ rfl (by kernel_rfl) (by kernel_rfl) (by simp [go_sem, hnm]))) (fun _ => hs4) ?_
         refine late_take 9 (.agg #[.int .i64 t.k, .string t.c]) rfl (by kernel_rfl) (by kernel_rfl) (by kernel_rfl) (fun _ _ _ h => h) (waits_of (by kernel_rfl)) (by decide) (by kernel_rfl) (yieldsW (by kernel_rfl) (fun w' hS => ev_load 44 34 (.pointer (some ⟨b, off + n * 2, none⟩)) _ rfl (by kernel_rfl) (run_loadAt_mid (P := Tryz.prog) w' b (off + n * 2) 44 [.int .i64 t.k, .string t.c] _ (HL.out w' hS).2 Tryz.underlying44 rfl (by kernel_rfl)))) (hs4) ?_
         refine lateN #[true, true, true, true, true, true, true, true, true, true, true, false, false, false, false, false, false] ⟨#[ptr f 0, .agg #[.int .i64 39, .int .i64 (n : Int)], .slice (some ⟨b, off, none⟩) m cap, undef, ptr w.heap.size 0, undef, .int .i64 0, ptr w.heap.size 0, .int .i64 39, .bool true, .bool true, ptr w.heap.size 0, .int .i64 39, .bool true, .bool true, .bool true, ptr w.heap.size 0, .int .i64 39, .bool false, .bool false, .slice (some ⟨b, off, none⟩) m cap, ptr w.heap.size 1, .int .i64 (n : Int), .pointer (some ⟨b, off + n * 2, none⟩), .agg #[.int .i64 t.k, .string t.c], .bool false, ptr w.heap.size 0, .int .i64 39, .bool true, .bool true, ptr f 0, .slice (some ⟨b, off, none⟩) m cap, ptr w.heap.size 1, .int .i64 (n : Int), .pointer (some ⟨b, off + n * 2, none⟩), .agg #[.int .i64 t.k, .string t.c], .slice (some ⟨zx4, 0, none⟩) 1 1, undef, undef, undef, undef, undef, undef], []⟩ ?_
         refine late_all [11] (by kernel_rfl) (by simp) (fun jj hjj => ?_)
         obtain rfl := one_of hjj
         refine late_callW (f := 138) rfl (by kernel_rfl) (by kernel_rfl) (R := fun v w' => ∃ c, v = .slice (some ⟨c, 0, none⟩) 1 1 ∧ w'.heap[c]? = some (.cells #[.int .i64 4, .string H.obj] 44 (0, 0)) ∧ Fr no x4 w') ((of4_any x4 _ (ex4)).mono (fun e w' ⟨c, h1, h2⟩ => ⟨_, h1, c, rfl, h2⟩)) (fun v x5 hv => ?_)
         obtain ⟨c, rfl, e4, f4⟩ := hv
         have hs5 : Fr no w2 x5 := (hs4).new f4 (fun _ _ f => f)
         have HL4 : Hid (∀ w', Fr no x5 w' → w'.heap[c]? = some (.cells #[.int .i64 4, .string H.obj] 44 (0, 0))) := fun w' hf => hf.heap e4 (fun f => f)
         refine ⟨fun _ => hs5, ?_⟩
         refine lateN #[true, true, true, true, true, true, true, true, true, true, true, true, false, false, false, false, false] ⟨#[ptr f 0, .agg #[.int .i64 39, .int .i64 (n : Int)], .slice (some ⟨b, off, none⟩) m cap, undef, ptr w.heap.size 0, undef, .int .i64 0, ptr w.heap.size 0, .int .i64 39, .bool true, .bool true, ptr w.heap.size 0, .int .i64 39, .bool true, .bool true, .bool true, ptr w.heap.size 0, .int .i64 39, .bool false, .bool false, .slice (some ⟨b, off, none⟩) m cap, ptr w.heap.size 1, .int .i64 (n : Int), .pointer (some ⟨b, off + n * 2, none⟩), .agg #[.int .i64 t.k, .string t.c], .bool false, ptr w.heap.size 0, .int .i64 39, .bool true, .bool true, ptr f 0, .slice (some ⟨b, off, none⟩) m cap, ptr w.heap.size 1, .int .i64 (n : Int), .pointer (some ⟨b, off + n * 2, none⟩), .agg #[.int .i64 t.k, .string t.c], .slice (some ⟨zx4, 0, none⟩) 1 1, .slice (some ⟨c, 0, none⟩) 1 1, undef, undef, undef, undef, undef], []⟩ ?_
         refine late_pure 12 (ptr c 0) rfl (by kernel_rfl) (by kernel_rfl) (by kernel_rfl) (fun _ _ _ h => h) (by decide) (yieldsW (by kernel_rfl) (fun _ _ => by kernel_rfl)) (fun _ => hs5) ?_
         refine lateN #[true, true, true, true, true, true, true, true, true, true, true, true, true, false, false, false, false] ⟨#[ptr f 0, .agg #[.int .i64 39, .int .i64 (n : Int)], .slice (some ⟨b, off, none⟩) m cap, undef, ptr w.heap.size 0, undef, .int .i64 0, ptr w.heap.size 0, .int .i64 39, .bool true, .bool true, ptr w.heap.size 0, .int .i64 39, .bool true, .bool true, .bool true, ptr w.heap.size 0, .int .i64 39, .bool false, .bool false, .slice (some ⟨b, off, none⟩) m cap, ptr w.heap.size 1, .int .i64 (n : Int), .pointer (some ⟨b, off + n * 2, none⟩), .agg #[.int .i64 t.k, .string t.c], .bool false, ptr w.heap.size 0, .int .i64 39, .bool true, .bool true, ptr f 0, .slice (some ⟨b, off, none⟩) m cap, ptr w.heap.size 1, .int .i64 (n : Int), .pointer (some ⟨b, off + n * 2, none⟩), .agg #[.int .i64 t.k, .string t.c], .slice (some ⟨zx4, 0, none⟩) 1 1, .slice (some ⟨c, 0, none⟩) 1 1, ptr c 0, undef, undef, undef, undef], []⟩ ?_
         refine late_all [13] (by kernel_rfl) (by simp) (fun jj hjj => ?_)
         obtain rfl := one_of hjj
         refine late_opW rfl (by kernel_rfl) (ev_load 44 38 (.pointer (some ⟨c, 0, none⟩)) (.agg #[.int .i64 4, .string H.obj]) rfl (by kernel_rfl) (load_row x5 c 44 _ _ (HL4.out x5 (Fr.refl no _)) Tryz.underlying44 rfl (by kernel_rfl))) ?_
         refine ⟨fun _ => hs5, ?_⟩
         refine lateN #[true, true, true, true, true, true, true, true, true, true, true, true, true, true, false, false, false] ⟨#[ptr f 0, .agg #[.int .i64 39, .int .i64 (n : Int)], .slice (some ⟨b, off, none⟩) m cap, undef, ptr w.heap.size 0, undef, .int .i64 0, ptr w.heap.size 0, .int .i64 39, .bool true, .bool true, ptr w.heap.size 0, .int .i64 39, .bool true, .bool true, .bool true, ptr w.heap.size 0, .int .i64 39, .bool false, .bool false, .slice (some ⟨b, off, none⟩) m cap, ptr w.heap.size 1, .int .i64 (n : Int), .pointer (some ⟨b, off + n * 2, none⟩), .agg #[.int .i64 t.k, .string t.c], .bool false, ptr w.heap.size 0, .int .i64 39, .bool true, .bool true, ptr f 0, .slice (some ⟨b, off, none⟩) m cap, ptr w.heap.size 1, .int .i64 (n : Int), .pointer (some ⟨b, off + n * 2, none⟩), .agg #[.int .i64 t.k, .string t.c], .slice (some ⟨zx4, 0, none⟩) 1 1, .slice (some ⟨c, 0, none⟩) 1 1, ptr c 0, .agg #[.int .i64 4, .string H.obj], undef, undef, undef], []⟩ ?_
         refine late_all [14] (by kernel_rfl) (by simp) (fun jj hjj => ?_)
         obtain rfl := one_of hjj
         refine late_callW (f := 148) rfl (by kernel_rfl) (by kernel_rfl) (R := fun v w' => v = .bool (fitO t) ∧ Fr no x5 w') ((HFF.out x5 (hs5)).mono (fun e w' ⟨h1, h2⟩ => ⟨_, h1, rfl, h2⟩)) (fun v w9 hv => ?_)
         obtain ⟨rfl, f9⟩ := hv
         have h9 : Fr no w2 w9 := (hs5).new f9 (fun _ _ f => f)
         refine ⟨fun h => absurd h (by show ¬ (true = false); decide), ?_⟩
         refine late_pure 15 (.bool (!fitO t)) rfl (by kernel_rfl) (by kernel_rfl) (by kernel_rfl) (fun _ _ _ h => h) (by decide) (yieldsW (by kernel_rfl) (fun _ _ => by kernel_rfl)) (fun _ => h9) ?_
         refine late_pure 16 (.bool (!fitO t)) rfl (by kernel_rfl) (by kernel_rfl) (by kernel_rfl) (fun _ _ _ h => h) (by decide) (yieldsW (by kernel_rfl) (fun _ _ => by kernel_rfl)) (fun _ => h9) ?_
         exact lateN _ _ (CONT (zx4, c) w9 h9)
       · refine late_callW (f := 138) rfl (by kernel_rfl) (by kernel_rfl) (R := fun v w' => ∃ c, v = .slice (some ⟨c, 0, none⟩) 1 1 ∧ w'.heap[c]? = some (.cells #[.int .i64 4, .string H.obj] 44 (0, 0)) ∧ Fr no x4 w') ((of4_any x4 _ (ex4)).mono (fun e w' ⟨c, h1, h2⟩ => ⟨_, h1, c, rfl, h2⟩)) (fun v x5 hv => ?_)
         obtain ⟨c, rfl, e4, f4⟩ := hv
         have hs5 : Fr no w2 x5 := (hs4).new f4 (fun _ _ f => f)
         have HL4 : Hid (∀ w', Fr no x5 w' → w'.heap[c]? = some (.cells #[.int .i64 4, .string H.obj] 44 (0, 0))) := fun w' hf => hf.heap e4 (fun f => f)
         refine ⟨fun _ => hs5, ?_⟩
         refine lateN #[true, true, true, true, true, true, true, false, false, false, true, true, false, false, false, false, false] ⟨#[ptr f 0, .agg #[.int .i64 39, .int .i64 (n : Int)], .slice (some ⟨b, off, none⟩) m cap, undef, ptr w.heap.size 0, undef, .int .i64 0, ptr w.heap.size 0, .int .i64 39, .bool true, .bool true, ptr w.heap.size 0, .int .i64 39, .bool true, .bool true, .bool true, ptr w.heap.size 0, .int .i64 39, .bool false, .bool false, .slice (some ⟨b, off, none⟩) m cap, ptr w.heap.size 1, .int .i64 (n : Int), .pointer (some ⟨b, off + n * 2, none⟩), .agg #[.int .i64 t.k, .string t.c], .bool false, ptr w.heap.size 0, .int .i64 39, .bool true, .bool true, ptr f 0, .slice (some ⟨b, off, none⟩) m cap, ptr w.heap.size 1, undef, undef, undef, .slice (some ⟨zx4, 0, none⟩) 1 1, .slice (some ⟨c, 0, none⟩) 1 1, undef, undef, undef, undef, undef], []⟩ ?_
         refine late_pure 12 (ptr c 0) rfl (by kernel_rfl) (by kernel_rfl) (by kernel_rfl) (fun _ _ _ h => h) (by decide) (yieldsW (by kernel_rfl) (fun _ _ => by kernel_rfl)) (fun _ => hs5) ?_
         refine lateN #[true, true, true, true, true, true, true, false, false, false, true, true, true, false, false, false, false] ⟨#[ptr f 0, .agg #[.int .i64 39, .int .i64 (n : Int)], .slice (some ⟨b, off, none⟩) m cap, undef, ptr w.heap.size 0, undef, .int .i64 0, ptr w.heap.size 0, .int .i64 39, .bool true, .bool true, ptr w.heap.size 0, .int .i64 39, .bool true, .bool true, .bool true, ptr w.heap.size 0, .int .i64 39, .bool false, .bool false, .slice (some ⟨b, off, none⟩) m cap, ptr w.heap.size 1, .int .i64 (n : Int), .pointer (some ⟨b, off + n * 2, none⟩), .agg #[.int .i64 t.k, .string t.c], .bool false, ptr w.heap.size 0, .int .i64 39, .bool true, .bool true, ptr f 0, .slice (some ⟨b, off, none⟩) m cap, ptr w.heap.size 1, undef, undef, undef, .slice (some ⟨zx4, 0, none⟩) 1 1, .slice (some ⟨c, 0, none⟩) 1 1, ptr c 0, undef, undef, undef, undef], []⟩ ?_
         refine late_all [7, 13] (by kernel_rfl) (by simp) (fun jj hjj => ?_)
         replace hjj := two_of hjj
         rcases hjj with rfl | rfl
         · refine late_opW rfl (by kernel_rfl) (ev_load 3 32 (.pointer (some ⟨w.heap.size, 1, none⟩)) (.int .i64 (n : Int)) rfl (by kernel_rfl) (by simp [go_sem, cell_at (o := 1) (HL.out x5 (hs5)).1])) ?_
           refine ⟨fun _ => hs5, ?_⟩
           refine lateN #[true, true, true, true, true, true, true, true, false, false, true, true, true, false, false, false, false] ⟨#[ptr f 0, .agg #[.int .i64 39, .int .i64 (n : Int)], .slice (some ⟨b, off, none⟩) m cap, undef, ptr w.heap.size 0, undef, .int .i64 0, ptr w.heap.size 0, .int .i64 39, .bool true, .bool true, ptr w.heap.size 0, .int .i64 39, .bool true, .bool true, .bool true, ptr w.heap.size 0, .int .i64 39, .bool false, .bool false, .slice (some ⟨b, off, none⟩) m cap, ptr w.heap.size 1, .int .i64 (n : Int), .pointer (some ⟨b, off + n * 2, none⟩), .agg #[.int .i64 t.k, .string t.c], .bool false, ptr w.heap.size 0, .int .i64 39, .bool true, .bool true, ptr f 0, .slice (some ⟨b, off, none⟩) m cap, ptr w.heap.size 1, .int .i64 (n : Int), undef, undef, .slice (some ⟨zx4, 0, none⟩) 1 1, .slice (some ⟨c, 0, none⟩) 1 1, ptr c 0, undef, undef, undef, undef], []⟩ ?_
           refine late_pure 8 (.pointer (some ⟨b, off + n * 2, none⟩)) rfl (by kernel_rfl) (by kernel_rfl) (by kernel_rfl) (fun _ _ _ h => h) (by decide) (yieldsW (by kernel_rfl) (fun _ _ => ev_index 42 31 33 (.slice (some ⟨b, off, none⟩) m cap) (.int .i64 (n : Int)) _ rfl (by kernel_rfl) (by kernel_rfl) (by simp [go_sem, hnm]))) (fun _ => hs5) ?_
           refine late_take 9 (.agg #[.int .i64 t.k, .string t.c]) rfl (by kernel_rfl) (by kernel_rfl) (by kernel_rfl) (fun _ _ _ h => h) (waits_of (by kernel_rfl)) (by decide) (by kernel_rfl) (yieldsW (by kernel_rfl) (fun w' hS => ev_load 44 34 (.pointer (some ⟨b, off + n * 2, none⟩)) _ rfl (by kernel_rfl) (run_loadAt_mid (P := Tryz.prog) w' b (off + n * 2) 44 [.int .i64 t.k, .string t.c] _ (HL.out w' hS).2 Tryz.underlying44 rfl (by kernel_rfl)))) (hs5) ?_
           refine lateN #[true, true, true, true, true, true, true, true, true, true, true, true, true, false, false, false, false] ⟨#[ptr f 0, .agg #[.int .i64 39, .int .i64 (n : Int)], .slice (some ⟨b, off, none⟩) m cap, undef, ptr w.heap.size 0, undef, .int .i64 0, ptr w.heap.size 0, .int .i64 39, .bool true, .bool true, ptr w.heap.size 0, .int .i64 39, .bool true, .bool true, .bool true, ptr w.heap.size 0, .int .i64 39, .bool false, .bool false, .slice (some ⟨b, off, none⟩) m cap, ptr w.heap.size 1, .int .i64 (n : Int), .pointer (some ⟨b, off + n * 2, none⟩), .agg #[.int .i64 t.k, .string t.c], .bool false, ptr w.heap.size 0, .int .i64 39, .bool true, .bool true, ptr f 0, .slice (some ⟨b, off, none⟩) m cap, ptr w.heap.size 1, .int .i64 (n : Int), .pointer (some ⟨b, off + n * 2, none⟩), .agg #[.int .i64 t.k, .string t.c], .slice (some ⟨zx4, 0, none⟩) 1 1, .slice (some ⟨c, 0, none⟩) 1 1, ptr c 0, undef, undef, undef, undef], []⟩ ?_
           refine late_all [13] (by kernel_rfl) (by simp) (fun jj hjj => ?_)
           obtain rfl := one_of hjj
           refine late_opW rfl (by kernel_rfl) (ev_load 44 38 (.pointer (some ⟨c, 0, none⟩)) (.agg #[.int .i64 4, .string H.obj]) rfl (by kernel_rfl) (load_row x5 c 44 _ _ (HL4.out x5 (Fr.refl no _)) Tryz.underlying44 rfl (by kernel_rfl))) ?_
           refine ⟨fun _ => hs5, ?_⟩
           refine lateN #[true, true, true, true, true, true, true, true, true, true, true, true, true, true, false, false, false] ⟨#[ptr f 0, .agg #[.int .i64 39, .int .i64 (n : Int)], .slice (some ⟨b, off, none⟩) m cap, undef, ptr w.heap.size 0, undef, .int .i64 0, ptr w.heap.size 0, .int .i64 39, .bool true, .bool true, ptr w.heap.size 0, .int .i64 39, .bool true, .bool true, .bool true, ptr w.heap.size 0, .int .i64 39, .bool false, .bool false, .slice (some ⟨b, off, none⟩) m cap, ptr w.heap.size 1, .int .i64 (n : Int), .pointer (some ⟨b, off + n * 2, none⟩), .agg #[.int .i64 t.k, .string t.c], .bool false, ptr w.heap.size 0, .int .i64 39, .bool true, .bool true, ptr f 0, .slice (some ⟨b, off, none⟩) m cap, ptr w.heap.size 1, .int .i64 (n : Int), .pointer (some ⟨b, off + n * 2, none⟩), .agg #[.int .i64 t.k, .string t.c], .slice (some ⟨zx4, 0, none⟩) 1 1, .slice (some ⟨c, 0, none⟩) 1 1, ptr c 0, .agg #[.int .i64 4, .string H.obj], undef, undef, undef], []⟩ ?_
           refine late_all [14] (by kernel_rfl) (by simp) (fun jj hjj => ?_)
           obtain rfl := one_of hjj
           refine late_callW (f := 148) rfl (by kernel_rfl) (by kernel_rfl) (R := fun v w' => v = .bool (fitO t) ∧ Fr no x5 w') ((HFF.out x5 (hs5)).mono (fun e w' ⟨h1, h2⟩ => ⟨_, h1, rfl, h2⟩)) (fun v w9 hv => ?_)
           obtain ⟨rfl, f9⟩ := hv
           have h9 : Fr no w2 w9 := (hs5).new f9 (fun _ _ f => f)
           refine ⟨fun h => absurd h (by show ¬ (true = false); decide), ?_⟩
           refine late_pure 15 (.bool (!fitO t)) rfl (by kernel_rfl) (by kernel_rfl) (by kernel_rfl) (fun _ _ _ h => h) (by decide) (yieldsW (by kernel_rfl) (fun _ _ => by kernel_rfl)) (fun _ => h9) ?_
           refine late_pure 16 (.bool (!fitO t)) rfl (by kernel_rfl) (by kernel_rfl) (by kernel_rfl) (fun _ _ _ h => h) (by decide) (yieldsW (by kernel_rfl) (fun _ _ => by kernel_rfl)) (fun _ => h9) ?_
           exact lateN _ _ (CONT (zx4, c) w9 h9)
         · refine late_opW rfl (by kernel_rfl) (ev_load 44 38 (.pointer (some ⟨c, 0, none⟩)) (.agg #[.int .i64 4, .string H.obj]) rfl (by kernel_rfl) (load_row x5 c 44 _ _ (HL4.out x5 (Fr.refl no _)) Tryz.underlying44 rfl (by kernel_rfl))) ?_
           refine ⟨fun _ => hs5, ?_⟩
           refine lateN #[true, true, true, true, true, true, true, false, false, false, true, true, true, true, false, false, false] ⟨#[ptr f 0, .agg #[.int .i64 39, .int .i64 (n : Int)], .slice (some ⟨b, off, none⟩) m cap, undef, ptr w.heap.size 0, undef, .int .i64 0, ptr w.heap.size 0, .int .i64 39, .bool true, .bool true, ptr w.heap.size 0, .int .i64 39, .bool true, .bool true, .bool true, ptr w.heap.size 0, .int .i64 39, .bool false, .bool false, .slice (some ⟨b, off, none⟩) m cap, ptr w.heap.size 1, .int .i64 (n : Int), .pointer (some ⟨b, off + n * 2, none⟩), .agg #[.int .i64 t.k, .string t.c], .bool false, ptr w.heap.size 0, .int .i64 39, .bool true, .bool true, ptr f 0, .slice (some ⟨b, off, none⟩) m cap, ptr w.heap.size 1, undef, undef, undef, .slice (some ⟨zx4, 0, none⟩) 1 1, .slice (some ⟨c, 0, none⟩) 1 1, ptr c 0, .agg #[.int .i64 4, .string H.obj], undef, undef, undef], []⟩ ?_
           refine late_all [7] (by kernel_rfl) (by simp) (fun jj hjj => ?_)
           obtain rfl := one_of hjj
           refine late_opW rfl (by kernel_rfl) (ev_load 3 32 (.pointer (some ⟨w.heap.size, 1, none⟩)) (.int .i64 (n : Int)) rfl (by kernel_rfl) (by simp [go_sem, cell_at (o := 1) (HL.out x5 (hs5)).1])) ?_
           refine ⟨fun _ => hs5, ?_⟩
           refine lateN #[true, true, true, true, true, true, true, true, false, false, true, true, true, true, false, false, false] ⟨#[ptr f 0, .agg #[.int .i64 39, .int .i64 (n : Int)], .slice (some ⟨b, off, none⟩) m cap, undef, ptr w.heap.size 0, undef, .int .i64 0, ptr w.heap.size 0, .int .i64 39, .bool true, .bool true, ptr w.heap.size 0, .int .i64 39, .bool true, .bool true, .bool true, ptr w.heap.size 0, .int .i64 39, .bool false, .bool false, .slice (some ⟨b, off, none⟩) m cap, ptr w.heap.size 1, .int .i64 (n : Int), .pointer (some ⟨b, off + n * 2, none⟩), .agg #[.int .i64 t.k, .string t.c], .bool false, ptr w.heap.size 0, .int .i64 39, .bool true, .bool true, ptr f 0, .slice (some ⟨b, off, none⟩) m cap, ptr w.heap.size 1, .int .i64 (n : Int), undef, undef, .slice (some ⟨zx4, 0, none⟩) 1 1, .slice (some ⟨c, 0, none⟩) 1 1, ptr c 0, .agg #[.int .i64 4, .string H.obj], undef, undef, undef], []⟩ ?_
           refine late_pure 8 (.pointer (some ⟨b, off + n * 2, none⟩)) rfl (by kernel_rfl) (by kernel_rfl) (by kernel_rfl) (fun _ _ _ h => h) (by decide) (yieldsW (by kernel_rfl) (fun _ _ => ev_index 42 31 33 (.slice (some ⟨b, off, none⟩) m cap) (.int .i64 (n : Int)) _ rfl (by kernel_rfl) (by kernel_rfl) (by simp [go_sem, hnm]))) (fun _ => hs5) ?_
           refine late_take 9 (.agg #[.int .i64 t.k, .string t.c]) rfl (by kernel_rfl) (by kernel_rfl) (by kernel_rfl) (fun _ _ _ h => h) (waits_of (by kernel_rfl)) (by decide) (by kernel_rfl) (yieldsW (by kernel_rfl) (fun w' hS => ev_load 44 34 (.pointer (some ⟨b, off + n * 2, none⟩)) _ rfl (by kernel_rfl) (run_loadAt_mid (P := Tryz.prog) w' b (off + n * 2) 44 [.int .i64 t.k, .string t.c] _ (HL.out w' hS).2 Tryz.underlying44 rfl (by kernel_rfl)))) (hs5) ?_
           refine lateN #[true, true, true, true, true, true, true, true, true, true, true, true, true, true, false, false, false] ⟨#[ptr f 0, .agg #[.int .i64 39, .int .i64 (n : Int)], .slice (some ⟨b, off, none⟩) m cap, undef, ptr w.heap.size 0, undef, .int .i64 0, ptr w.heap.size 0, .int .i64 39, .bool true, .bool true, ptr w.heap.size 0, .int .i64 39, .bool true, .bool true, .bool true, ptr w.heap.size 0, .int .i64 39, .bool false, .bool false, .slice (some ⟨b, off, none⟩) m cap, ptr w.heap.size 1, .int .i64 (n : Int), .pointer (some ⟨b, off + n * 2, none⟩), .agg #[.int .i64 t.k, .string t.c], .bool false, ptr w.heap.size 0, .int .i64 39, .bool true, .bool true, ptr f 0, .slice (some ⟨b, off, none⟩) m cap, ptr w.heap.size 1, .int .i64 (n : Int), .pointer (some ⟨b, off + n * 2, none⟩), .agg #[.int .i64 t.k, .string t.c], .slice (some ⟨zx4, 0, none⟩) 1 1, .slice (some ⟨c, 0, none⟩) 1 1, ptr c 0, .agg #[.int .i64 4, .string H.obj], undef, undef, undef], []⟩ ?_
           refine late_all [14] (by kernel_rfl) (by simp) (fun jj hjj => ?_)
           obtain rfl := one_of hjj
           refine late_callW (f := 148) rfl (by kernel_rfl) (by kernel_rfl) (R := fun v w' => v = .bool (fitO t) ∧ Fr no x5 w') ((HFF.out x5 (hs5)).mono (fun e w' ⟨h1, h2⟩ => ⟨_, h1, rfl, h2⟩)) (fun v w9 hv => ?_)
           obtain ⟨rfl, f9⟩ := hv
           have h9 : Fr no w2 w9 := (hs5).new f9 (fun _ _ f => f)
           refine ⟨fun h => absurd h (by show ¬ (true = false); decide), ?_⟩
           refine late_pure 15 (.bool (!fitO t)) rfl (by kernel_rfl) (by kernel_rfl) (by kernel_rfl) (fun _ _ _ h => h) (by decide) (yieldsW (by kernel_rfl) (fun _ _ => by kernel_rfl)) (fun _ => h9) ?_
           refine late_pure 16 (.bool (!fitO t)) rfl (by kernel_rfl) (by kernel_rfl) (by kernel_rfl) (fun _ _ _ h => h) (by decide) (yieldsW (by kernel_rfl) (fun _ _ => by kernel_rfl)) (fun _ => h9) ?_
           exact lateN _ _ (CONT (zx4, c) w9 h9)
set_option maxRecDepth 100000 in
set_option maxHeartbeats 2000000 in
theorem mayRead_any (w : World) (f : Nat) (op a : Int) (v : Value) (lo : List Ty) (hv : SlG elTy w v lo) (q : Value) (hq : w.cell? ⟨f, 0, none⟩ = some q) (hQ : FitQ w q) (h38 : rd38 (op, a) lo) (ha : op = 4 → 0 ≤ a ∧ a < lo.length) :
 Calls Tryz.prog 149 #[.pointer (some ⟨f, 0, none⟩), .agg #[.int .i64 op, .int .i64 a], v] w fun e w' => e = .returned (.int .i64 (readE op a lo)) ∧ Fr no w w' := by
 obtain ⟨ad, cap, rfl, hl, hc, hit⟩ := hv
 have HI : Hid _ := hit
 clear hit
 have F : Fr no w (w.alloc (.cells #[.int .i64 op, .int .i64 a] 27)) := (Fr.refl no w).alloc _ _
 by_cases h4 : op = 4
 · subst h4
   obtain ⟨ha1, ha2⟩ := ha rfl
   obtain ⟨n, rfl⟩ : ∃ n : Nat, a = (n : Int) := ⟨a.toNat, by omega⟩
   obtain ⟨t, ht⟩ : ∃ t, lo[n]? = some t := ⟨_, List.getElem?_eq_getElem (by omega)⟩
   obtain ⟨b, off, rfl, hcell⟩ := HI.out n t ht
   have d0 := F.cell (hcell 0 _ rfl) (fun f => f)
   have d1 := F.cell (hcell 1 _ rfl) (fun f => f)
   simp only [elTy, Nat.add_zero] at d0 d1
   have hE : readE 4 (n : Int) lo = if t.k = 6 then 82 else 0 := by
    unfold readE
    rw [Int.toNat_natCast, List.getD_eq_getElem?_getD, ht, Option.getD_some]
    simp
   clear hq hQ h38
   have HE : Hid _ := hE
   have IT := isTop_any (w.alloc (.cells #[.int .i64 4, .int .i64 (n : Int)] 27)) t
   have HF : Hid _ := F
   have E0 : (w.alloc (.cells #[.int .i64 4, .int .i64 (n : Int)] 27)).heap[w.heap.size]? = some (.cells #[.int .i64 4, .int .i64 (n : Int)] 27 (0, 0)) := heap_alloc_new w _
   have z0 := cell_at (o := 0) E0
   have z1 := cell_at (o := 1) E0
   simp only [List.getElem?_toArray, List.getElem?_cons_zero, List.getElem?_cons_succ] at z0 z1
   have hnm : (n : Int) < (lo.length : Int) := by omega
   have HK : Hid (∀ w', Fr no (w.alloc (.cells #[.int .i64 4, .int .i64 (n : Int)] 27)) w' → w'.cell? ⟨w.heap.size, 0, none⟩ = some (.int .i64 4)) := fun w' hf => hf.cell z0 (fun f => f)
   generalize hlen : lo.length = m at *
   clear hE F hcell E0
   unfold tyV at IT
   generalize hW : w.alloc (.cells #[.int .i64 4, .int .i64 (n : Int)] 27) = W at *
   by_cases h6 : t.k = 6
   · have HE' : Hid (readE 4 (n : Int) lo = 82) := by show _ = _; rw [HE.out, if_pos h6]
     rw [decide_eq_true h6] at IT
     clear h6
     go_enter Tryz.func149, Tryz.ntmps149
     go_wp2_with fail
     refine IT.mono ?_
     rintro e w2 ⟨rfl, f2⟩
     go_wp2_with fail
     go_ret
     rw [HE'.out]
     exact ⟨rfl, HF.out.new f2 (fun _ _ f => f)⟩
   · have HE' : Hid (readE 4 (n : Int) lo = 0) := by show _ = _; rw [HE.out, if_neg h6]
     rw [decide_eq_false h6] at IT
     go_enter Tryz.func149, Tryz.ntmps149
     go_wp2_with fail
     refine IT.mono ?_
     rintro e w2 ⟨rfl, f2⟩
     have zz := HK.out w2 f2
     clear IT
     go_wp2_with fail
     go_region
     go_wp2_with fail
     go_ret
     rw [HE'.out]
     exact ⟨rfl, HF.out.new f2.drew (fun _ _ f => f)⟩
 · by_cases hop : op = 38 ∨ op = 39
   · exact readLock w f op hop a _ lo ⟨ad, cap, rfl, hl, hc, HI.out⟩ q hq hQ h38
   · have hq38 : (op != 38) = true := by simp; omega
     have hq39 : (op != 39) = true := by simp; omega
     clear hq hQ h38
     have h4' : (op != 4) = true := by simpa using h4
     have HE : Hid (readE op a lo = 0) := by show _ = _; unfold readE; rw [if_neg (fun e => by have := e.1; omega), if_neg (fun e => hop e.1)]
     have HF : Hid _ := F
     clear F
     generalize hlen : lo.length = m at *
     go_enter Tryz.func149, Tryz.ntmps149
     go_wp2_with fail
     go_ret
     rw [HE.out]
     exact ⟨rfl, HF.out⟩
end Go.Proofs.YtalgjpmaafooeaaGreatDoor
