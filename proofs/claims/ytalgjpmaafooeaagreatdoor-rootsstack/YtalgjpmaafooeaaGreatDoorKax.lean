/- Whether two rows of locks are the same. -/
import Derived.Test.YtalgjpmaafooeaaGreatDoorKaw
import Derived.ChangeKeysEq
import Derived.Test.YtalgjpmaafooeaaGreatDoorKas
namespace Go.Proofs.YtalgjpmaafooeaaGreatDoor
open Go.ChangeShapes Go.WideShapes Go.ChangeAt Go.RowKit
theorem items_step (w : World) (xs ys : Array Value) (j : Nat) (rest : List Nat) (a b : Int) (h1 : (part 3 xs (j * 1)).run Tryz.prog w = .ok (.int .i64 a) w) (h2 : (part 3 ys (j * 1)).run Tryz.prog w = .ok (.int .i64 b) w) :
 (Op.eqItems 9998 3 1 xs ys (j :: rest)).run Tryz.prog w = if a = b then (Op.eqItems 9998 3 1 xs ys rest).run Tryz.prog w else .ok false w := by
 have he : (Op.equalIn 9998 3 (.int .i64 a) (.int .i64 b)).run Tryz.prog w = .ok (a == b) w := run_equalIn_int w 9997 3 .i64 .i64 a b Tryz.underlying3
 simp only [Op.eqItems, Sem.run_bind, h1, h2, Result.andThen_ok, he]
 by_cases e : a = b
 · subst e; simp
 · simp [e]
theorem eq_arr (w : World) (a1 a2 a3 a4 a5 a6 b1 b2 b3 b4 b5 b6 : Int) : (Op.equalIn 9999 97 (.agg #[.int .i64 a1, .int .i64 a2, .int .i64 a3, .int .i64 a4, .int .i64 a5, .int .i64 a6]) (.agg #[.int .i64 b1, .int .i64 b2, .int .i64 b3, .int .i64 b4, .int .i64 b5, .int .i64 b6])).run Tryz.prog w = .ok (decide (a1 = b1 ∧ a2 = b2 ∧ a3 = b3 ∧ a4 = b4 ∧ a5 = b5 ∧ a6 = b6)) w := by
 obtain ⟨i, hi⟩ : ∃ i, Tryz.prog.info? 3 = some i := Option.isSome_iff_exists.1 (by kernel_rfl)
 have hc : Tryz.prog.cellsOf 3 = 1 := by kernel_rfl
 have h := run_equalIn_array (P := Tryz.prog) w 9998 #[.int .i64 a1, .int .i64 a2, .int .i64 a3, .int .i64 a4, .int .i64 a5, .int .i64 a6] #[.int .i64 b1, .int .i64 b2, .int .i64 b3, .int .i64 b4, .int .i64 b5, .int .i64 b6] Tryz.underlying97 hi
 rw [hc, show List.range 6 = [0, 1, 2, 3, 4, 5] from rfl,
  items_step w _ _ 0 _ a1 b1 (by kernel_rfl) (by kernel_rfl), items_step w _ _ 1 _ a2 b2 (by kernel_rfl) (by kernel_rfl), items_step w _ _ 2 _ a3 b3 (by kernel_rfl) (by kernel_rfl),
  items_step w _ _ 3 _ a4 b4 (by kernel_rfl) (by kernel_rfl), items_step w _ _ 4 _ a5 b5 (by kernel_rfl) (by kernel_rfl), items_step w _ _ 5 _ a6 b6 (by kernel_rfl) (by kernel_rfl)] at h
 refine h.trans ?_
 have hn : (Op.eqItems 9998 3 1 #[Value.int .i64 a1, .int .i64 a2, .int .i64 a3, .int .i64 a4, .int .i64 a5, .int .i64 a6] #[Value.int .i64 b1, .int .i64 b2, .int .i64 b3, .int .i64 b4, .int .i64 b5, .int .i64 b6] []).run Tryz.prog w = .ok true w := by simp [Op.eqItems]
 rw [hn]
 by_cases e1 : a1 = b1 <;> by_cases e2 : a2 = b2 <;> by_cases e3 : a3 = b3 <;> by_cases e4 : a4 = b4 <;> by_cases e5 : a5 = b5 <;> by_cases e6 : a6 = b6 <;> simp [e1, e2, e3, e4, e5, e6]
theorem eq_held (w : World) (a0 a1 a2 a3 a4 a5 a6 b0 b1 b2 b3 b4 b5 b6 : Int) : (binOp .eql 99 (.agg #[.int .i64 a0, .int .i64 a1, .int .i64 a2, .int .i64 a3, .int .i64 a4, .int .i64 a5, .int .i64 a6]) (.agg #[.int .i64 b0, .int .i64 b1, .int .i64 b2, .int .i64 b3, .int .i64 b4, .int .i64 b5, .int .i64 b6])).run Tryz.prog w = .ok (.bool (decide (a0 = b0 ∧ a1 = b1 ∧ a2 = b2 ∧ a3 = b3 ∧ a4 = b4 ∧ a5 = b5 ∧ a6 = b6))) w := by
 have ha := eq_arr w a1 a2 a3 a4 a5 a6 b1 b2 b3 b4 b5 b6
 by_cases h0 : a0 = b0
 · subst h0
   by_cases hr : a1 = b1 ∧ a2 = b2 ∧ a3 = b3 ∧ a4 = b4 ∧ a5 = b5 ∧ a6 = b6
   · rw [decide_eq_true hr] at ha
     rw [decide_eq_true (show a0 = a0 ∧ a1 = b1 ∧ a2 = b2 ∧ a3 = b3 ∧ a4 = b4 ∧ a5 = b5 ∧ a6 = b6 from ⟨rfl, hr⟩)]
     simp [go_sem, ha]
   · rw [decide_eq_false hr] at ha
     simp [go_sem, ha, hr]
 · simp [go_sem, h0]
theorem eq_hl (w : World) (h k : List Int) (hh : h.length ≤ 6) (hk : k.length ≤ 6) : (binOp .eql 99 (hlV h) (hlV k)).run Tryz.prog w = .ok (.bool (decide (h = k))) w := by
 refine (eq_held w (h.length : Int) (h.getD 0 0) (h.getD 1 0) (h.getD 2 0) (h.getD 3 0) (h.getD 4 0) (h.getD 5 0) (k.length : Int) (k.getD 0 0) (k.getD 1 0) (k.getD 2 0) (k.getD 3 0) (k.getD 4 0) (k.getD 5 0)).trans ?_
 have e := hlV_eq hh hk
 simp only [hlC, List.cons.injEq, Value.int.injEq, true_and, and_true] at e
 rw [decide_eq_decide.2 e]
end Go.Proofs.YtalgjpmaafooeaaGreatDoor
/- Coming to an instruction with some locks: one that was reached before. -/
namespace Go.Proofs.YtalgjpmaafooeaaGreatDoor
open Go.ChangeShapes Go.WideShapes Go.ChangeAt Go.RowKit
open H (ix NewV)
theorem WkAt.keep {w0 w w' : World} {f S C c : Nat} {cd : List (Int × Int)} {s : Wk} (h : WkAt w0 w f S C c cd s) (hf : Fr no w w') : WkAt w0 w' f S C c cd s := by
 obtain ⟨⟨a0, a1, a2, a3, a4, a5, cs, hq, hc, v, h1, h2, h3, h4⟩, A, R, la, lr, ha, base, bs, lt, tr, few⟩ := h
 have := hf.size
 exact ⟨⟨a0, a1, a2, a3, a4, a5, cs, hq, hc, v, hf.heap h1 (fun f => f), h2, h3.keep hf, h4⟩, A.keep hf, R.keep hf, la, lr, ha, base.new hf (fun _ _ f => f), bs, by omega, tr, few⟩
theorem ev_eql90 {o : Oper} {a : Act} {w : World} (x y : Nat) (h k : List Int) (hh : h.length ≤ 6) (hk : k.length ≤ 6) (ho : o.op = .binOp .eql 99 (.tmp x) (.tmp y) 99) (hx : a.eval (.tmp x) = hlV h) (hy : a.eval (.tmp y) = hlV k) : (execOp a.eval o).run Tryz.prog w = .ok (.value (.bool (decide (h = k)))) w := by
 have e := eq_hl w h k hh hk
 have g : (eqGuard .eql 99 (.tmp x) (.tmp y) (hlV h) (hlV k)).run Tryz.prog w = .ok () w := run_eqGuard_agg w .eql 99 (.tmp x) (.tmp y) _ _ (by kernel_rfl)
 unfold execOp
 simp [ho, hx, hy, e, g]
set_option maxRecDepth 100000 in
set_option maxHeartbeats 4000000 in
theorem come_seen (w0 w : World) (f S C c : Nat) (cd : List (Int × Int)) (s : Wk) (KW : WkAt w0 w f S C c cd s) (i : Nat) (hi : i < cd.length) (h k : List Int) (hl : h.length ≤ 6) (hk : s.A[i]? = some k) (hr : s.R[i]? = some true) :
 Calls Tryz.prog 59 #[.pointer (some ⟨f, 0, none⟩), .int .i64 (i : Int), hlV h] w fun e w' => e = .returned (.bool (decide (k = h))) ∧ Fr no w w' := by
 obtain ⟨a0, a1, a2, a3, a4, a5, cs, hq, hc, v, E, -, -, -⟩ := KW.fb
 have c8 : w.cell? ⟨f, 8, none⟩ = some (.slice (some ⟨S, 0, none⟩) cd.length cd.length) := cell_at (o := 8) E
 have c9 : w.cell? ⟨f, 9, none⟩ = some (.slice (some ⟨C, 0, none⟩) cd.length cd.length) := cell_at (o := 9) E
 have hkl : k.length ≤ 6 := KW.ha k (List.mem_of_getElem? hk)
 have cS : ∀ j u, (hlC k)[j]? = some u → w.cell? ⟨S, i * 7 + j, none⟩ = some u := fun j u hj => by
  obtain ⟨ad, cap, e, -, -, hit⟩ := KW.A.sl okHl
  simp only [Value.slice.injEq] at e
  obtain ⟨rfl, -, -⟩ := e
  obtain ⟨b', off', e, hcs⟩ := hit i k hk
  simp only [Option.some.injEq, Addr.mk.injEq, and_true] at e
  obtain ⟨rfl, rfl⟩ := e
  have := hcs j u hj
  rw [Nat.zero_add] at this
  exact this
 have cR : w.cell? ⟨C, i, none⟩ = some (.bool true) := by
  obtain ⟨ad, cap, e, -, -, -, hit⟩ := KW.R.sl
  simp only [Value.slice.injEq] at e
  obtain ⟨rfl, -, -⟩ := e
  obtain ⟨bb, off, e, hcc⟩ := hit i true hr
  simp only [Option.some.injEq, Addr.mk.injEq, and_true] at e
  obtain ⟨rfl, rfl⟩ := e
  rw [Nat.zero_add] at hcc
  exact hcc
 have hii : (i : Int) < (cd.length : Int) := by omega
 have F : Fr no w (w.alloc (.cells (hlC h).toArray 99)) := (Fr.refl no w).alloc _ _
 have EB : (w.alloc (.cells (hlC h).toArray 99)).heap[w.heap.size]? = some (.cells (hlC h).toArray 99 (0, 0)) := heap_alloc_new w _
 clear E KW hk hr
 generalize cd.length = n at *
 have hW9 : Fr no w (w.alloc (.cells (hlC h).toArray 99)) := F
 generalize hW : w.alloc (.cells (hlC h).toArray 99) = W at *
 have d9 := F.cell c9 (fun f => f)
 have dR := F.cell cR (fun f => f)
 have HL : Hid (∀ w', Fr no W w' → w'.cell? ⟨f, 8, none⟩ = some (.slice (some ⟨S, 0, none⟩) n n) ∧ (∀ j u, (hlC k)[j]? = some u → w'.cell? ⟨S, i * 7 + j, none⟩ = some u) ∧ w'.heap[w.heap.size]? = some (.cells (hlC h).toArray 99 (0, 0))) := fun w' hf => ⟨hf.cell (F.cell c8 (fun f => f)) (fun f => f), fun j u hj => hf.cell (F.cell (cS j u hj) (fun f => f)) (fun f => f), hf.heap EB (fun f => f)⟩
 have HS0 : Hid (Fr no W W.drew) := (Fr.refl no W).drew
 have HF : Hid (Fr no w W) := F
 clear c8 c9 cS cR F EB hW9
 have hW' : w.alloc (.cells (hlC h).toArray 99) = W := hW
 unfold hlV
 generalize hA : (hlC h).toArray = A at *
 have HX : Hid (Value.agg A = hlV h) := by show _ = _; rw [← hA]; rfl
 go_enter Tryz.func59, Tryz.ntmps59
 go_wp2_with fail
 refine late_begin (S := fun w' => Fr no W w') (g := 9) (by kernel_rfl) ?_
 refine lateP 0 (ptr f 0) rfl (fun _ => ev_move 0 _ rfl (by kernel_rfl)) (fun _ => HS0.out) ?_
 refine lateP 1 (ptr f 0) rfl (fun _ => ev_nil 14 ⟨f, 0, none⟩ rfl (by kernel_rfl)) (fun _ => HS0.out) ?_
 refine lateP 2 (ptr f 8) rfl (fun _ => ev_field 102 15 1 (ptr f 0) _ rfl (by kernel_rfl) (by kernel_rfl)) (fun _ => HS0.out) ?_
 refine lateN #[true, true, true, false, false, false, false, false, false, false] ⟨#[ptr f 0, .int .i64 (i : Int), .agg A, undef, undef, ptr w.heap.size 0, .bool false, ptr f 0, ptr f 0, ptr f 9, .slice (some ⟨C, 0, none⟩) n n, .int .i64 (i : Int), ptr C i, .bool true, ptr f 0, ptr f 0, ptr f 8, undef, undef, undef, undef, undef, undef, undef, undef, undef, undef, undef, undef, undef, undef, undef, undef, undef, undef, undef, undef, undef, undef, undef, undef, undef, undef, undef, undef, undef], []⟩ ?_
 refine lateT 3 (.slice (some ⟨S, 0, none⟩) n n) rfl (fun w' hS => ev_load 100 16 (ptr f 8) _ rfl (by kernel_rfl) (by simp [go_sem, (HL.out w' hS).1])) (HS0.out) ?_
 refine lateP 4 (.int .i64 (i : Int)) rfl (fun _ => ev_move 1 _ rfl (by kernel_rfl)) (fun _ => HS0.out) ?_
 refine lateP 5 (.pointer (some ⟨S, i * 7, none⟩)) rfl (fun _ => ev_index 100 17 18 (.slice (some ⟨S, 0, none⟩) n n) (.int .i64 (i : Int)) _ rfl (by kernel_rfl) (by kernel_rfl) (by simp [go_sem, hii])) (fun _ => HS0.out) ?_
 refine lateN #[true, true, true, true, true, true, false, false, false, false] ⟨#[ptr f 0, .int .i64 (i : Int), .agg A, undef, undef, ptr w.heap.size 0, .bool false, ptr f 0, ptr f 0, ptr f 9, .slice (some ⟨C, 0, none⟩) n n, .int .i64 (i : Int), ptr C i, .bool true, ptr f 0, ptr f 0, ptr f 8, .slice (some ⟨S, 0, none⟩) n n, .int .i64 (i : Int), .pointer (some ⟨S, i * 7, none⟩), undef, undef, undef, undef, undef, undef, undef, undef, undef, undef, undef, undef, undef, undef, undef, undef, undef, undef, undef, undef, undef, undef, undef, undef, undef, undef], []⟩ ?_
 refine lateT 6 (hlV k) rfl (fun w' hS => ev_load 99 19 (.pointer (some ⟨S, i * 7, none⟩)) _ rfl (by kernel_rfl) (run_loadAt_mid (P := Tryz.prog) w' S (i * 7) 99 (hlC k) _ (HL.out w' hS).2.1 Tryz.underlying99 rfl (by kernel_rfl))) (HS0.out) ?_
 refine lateT 7 (.agg A) rfl (fun w' hS => ev_load 99 5 (ptr w.heap.size 0) _ rfl (by kernel_rfl) (load_row w' w.heap.size 99 _ _ (HL.out w' hS).2.2 Tryz.underlying99 rfl (by rw [← hA]; kernel_rfl))) (HS0.out) ?_
 refine lateN #[true, true, true, true, true, true, true, true, false, false] ⟨#[ptr f 0, .int .i64 (i : Int), .agg A, undef, undef, ptr w.heap.size 0, .bool false, ptr f 0, ptr f 0, ptr f 9, .slice (some ⟨C, 0, none⟩) n n, .int .i64 (i : Int), ptr C i, .bool true, ptr f 0, ptr f 0, ptr f 8, .slice (some ⟨S, 0, none⟩) n n, .int .i64 (i : Int), .pointer (some ⟨S, i * 7, none⟩), hlV k, .agg A, undef, undef, undef, undef, undef, undef, undef, undef, undef, undef, undef, undef, undef, undef, undef, undef, undef, undef, undef, undef, undef, undef, undef, undef], []⟩ ?_
 refine lateP 8 (.bool (decide (k = h))) rfl (fun _ => ev_eql90 20 21 k h hkl hl rfl (by kernel_rfl) ((by kernel_rfl : _ = Value.agg A).trans HX.out)) (fun _ => HS0.out) ?_
 refine lateN #[true, true, true, true, true, true, true, true, true, false] ⟨#[ptr f 0, .int .i64 (i : Int), .agg A, undef, undef, ptr w.heap.size 0, .bool false, ptr f 0, ptr f 0, ptr f 9, .slice (some ⟨C, 0, none⟩) n n, .int .i64 (i : Int), ptr C i, .bool true, ptr f 0, ptr f 0, ptr f 8, .slice (some ⟨S, 0, none⟩) n n, .int .i64 (i : Int), .pointer (some ⟨S, i * 7, none⟩), hlV k, .agg A, .bool (decide (k = h)), undef, undef, undef, undef, undef, undef, undef, undef, undef, undef, undef, undef, undef, undef, undef, undef, undef, undef, undef, undef, undef, undef, undef], []⟩ ?_
 refine late_all [9] (by kernel_rfl) (by simp) (fun jj hjj => ?_)
 obtain rfl := one_of hjj
 refine late_op rfl rfl (ev_assign 22 (.bool (decide (k = h))) rfl (by kernel_rfl)) ?_
 refine ⟨(fun h => Bool.noConfusion (show true = false from h)), ?_⟩
 refine lateN #[true, true, true, true, true, true, true, true, true, true] ⟨#[ptr f 0, .int .i64 (i : Int), .agg A, undef, undef, ptr w.heap.size 0, .bool (decide (k = h)), ptr f 0, ptr f 0, ptr f 9, .slice (some ⟨C, 0, none⟩) n n, .int .i64 (i : Int), ptr C i, .bool true, ptr f 0, ptr f 0, ptr f 8, .slice (some ⟨S, 0, none⟩) n n, .int .i64 (i : Int), .pointer (some ⟨S, i * 7, none⟩), hlV k, .agg A, .bool (decide (k = h)), undef, undef, undef, undef, undef, undef, undef, undef, undef, undef, undef, undef, undef, undef, undef, undef, undef, undef, undef, undef, undef, undef, undef], []⟩ ?_
 refine late_done (by kernel_rfl) ?_
 generalize hbb : decide (k = h) = bb
 have HBB : Hid (decide (k = h) = bb) := hbb
 clear hbb
 go_wp2_with fail
 go_ret
 rw [HBB.out]
 exact ⟨rfl, HF.out.new HS0.out (fun _ _ f => f)⟩
end Go.Proofs.YtalgjpmaafooeaaGreatDoor
/- Coming to an instruction with some locks: one that was not reached before; both. -/
namespace Go.Proofs.YtalgjpmaafooeaaGreatDoor
open Go.ChangeShapes Go.WideShapes Go.ChangeAt Go.RowKit
open H (ix NewV)
def Ti (f S C : Nat) (w : World) : Nat → Prop := fun k => k = f ∨ k = S ∨ k = C ∨ ∃ cur, w.heap[k]? = some (.cells cur 3 (0, 0))
set_option maxRecDepth 100000 in
set_option maxHeartbeats 4000000 in
theorem come_new (w0 w : World) (f S C c : Nat) (cd : List (Int × Int)) (s : Wk) (KW : WkAt w0 w f S C c cd s) (i : Nat) (hi : i < cd.length) (h : List Int) (hl : h.length ≤ 6) (hr : s.R[i]? = some false) (hwl : s.W.length ≤ 1000) :
 Calls Tryz.prog 59 #[.pointer (some ⟨f, 0, none⟩), .int .i64 (i : Int), hlV h] w fun e w' => e = .returned (.bool true) ∧ WkAt w0 w' f S C c cd ⟨s.A.set i h, s.R.set i true, s.W ++ [(i : Int)]⟩ ∧ Fr (Ti f S C w) w w' := by
 obtain ⟨a0, a1, a2, a3, a4, a5, cs, hq, hc, v, E, hsl, hv, hvc⟩ := KW.fb
 have c8 : w.cell? ⟨f, 8, none⟩ = some (.slice (some ⟨S, 0, none⟩) cd.length cd.length) := cell_at (o := 8) E
 have c9 : w.cell? ⟨f, 9, none⟩ = some (.slice (some ⟨C, 0, none⟩) cd.length cd.length) := cell_at (o := 9) E
 have cR : w.cell? ⟨C, i, none⟩ = some (.bool false) := by
  obtain ⟨ad, cap, e, -, -, -, hit⟩ := KW.R.sl
  simp only [Value.slice.injEq] at e
  obtain ⟨rfl, -, -⟩ := e
  obtain ⟨bb, off, e, hcc⟩ := hit i false hr
  simp only [Option.some.injEq, Addr.mk.injEq, and_true] at e
  obtain ⟨rfl, rfl⟩ := e
  rw [Nat.zero_add] at hcc
  exact hcc
 have hii : (i : Int) < (cd.length : Int) := by omega
 have F : Fr no w (w.alloc (.cells (hlC h).toArray 99)) := (Fr.refl no w).alloc _ _
 have EB : (w.alloc (.cells (hlC h).toArray 99)).heap[w.heap.size]? = some (.cells (hlC h).toArray 99 (0, 0)) := heap_alloc_new w _
 obtain ⟨cur, hcur, hln, -, -, hcsz, -⟩ := KW.A.cur
 obtain ⟨mc, hmc⟩ := KW.R.tag (k := C) rfl
 have HLT := KW.lt
 have HLA := KW.la
 have HLR := KW.lr
 have hW9 : Fr no w (w.alloc (.cells (hlC h).toArray 99)) := F
 generalize hW : w.alloc (.cells (hlC h).toArray 99) = W at *
 -- the row of locks
 obtain ⟨X1, r1, hX1, f1⟩ := store_mid W.drew S (i * 7) 99 99 cur (hlC h).toArray (F.drew.heap hcur (fun f => f)) (by rw [hcsz]; show i * 7 + 7 ≤ cd.length * 7; omega) (by kernel_rfl) (by kernel_rfl)
 have hmc1 : X1.heap[C]? = some (.cells mc 4 (0, 0)) := f1.heap (F.drew.heap hmc (fun f => f)) (fun e => by omega)
 have cR1 : X1.cell? ⟨C, i, none⟩ = some (.bool false) := f1.cell (F.drew.cell cR (fun f => f)) (fun e => by simp only at e; omega)
 have f2 : Fr (fun k => k = C) X1 (X1.setCell ⟨C, i, none⟩ (.bool true)) := (Fr.refl (fun k => k = C) X1).setCell (p := ⟨C, i, none⟩) (fun _ => rfl) _
 have r2 : (Instr.storeAt 4 (.pointer (some ⟨C, i, none⟩)) (.bool true)).run Tryz.prog X1 = .ok () (X1.setCell ⟨C, i, none⟩ (.bool true)) := by simp [go_sem, cR1, frozen_at (o := i) hmc1]
 have oA : OwnG elHl (X1.setCell ⟨C, i, none⟩ (.bool true)) (.slice (some ⟨S, 0, none⟩) cd.length cd.length) (s.A.set i h) := ((KW.A.keep F.drew).puts okHl (F.drew.heap hcur (fun f => f)) (by omega) h hX1).kept f2 (fun k hk e => by simp [Value.ownBlock] at hk; omega)
 have oR : H.OwnG elB (X1.setCell ⟨C, i, none⟩ (.bool true)) (.slice (some ⟨C, 0, none⟩) cd.length cd.length) (s.R.set i true) := ((KW.R.keep F.drew).kept f1 (fun k hk e => by simp [Value.ownBlock] at hk; omega)).set1 (by omega) true
 generalize hX2 : X1.setCell ⟨C, i, none⟩ (.bool true) = X2 at *
 have fX : Fr (fun k => k = S ∨ k = C) w X2 := (F.drew.mono (fun _ _ e => e.elim)).trans (f1.trans f2 (fun _ _ e => Or.inl e) (fun _ _ e => Or.inr e)) (fun _ _ e => e) (fun _ _ e => e)
 have E2 := fX.heap E (fun e => by omega)
 have hv2 : H.OwnG elJ X2 v s.W := hv.kept fX (fun k hk e => by have := hvc k hk; omega)
 -- what waits
 obtain ⟨vo, vc, rfl⟩ := hv.form
 have z10 : X2.cell? ⟨f, 10, none⟩ = some (.slice vo s.W.length vc) := cell_at (o := 10) E2
 have LEM : Hid (∀ v' w', H.OwnG elJ w' v' (s.W ++ [(i : Int)]) → H.Sp (.slice vo s.W.length vc) (X2.alloc (.cells #[.int .i64 (i : Int)] 3)) v' w' → (∃ u, w'.cell? ⟨f, 10, none⟩ = some u) ∧ w'.frozen? ⟨f, 10, none⟩ = false ∧ Hid (WkAt w0 (w'.setCell ⟨f, 10, none⟩ v') f S C c cd ⟨s.A.set i h, s.R.set i true, s.W ++ [(i : Int)]⟩ ∧ Fr (Ti f S C w) w (w'.setCell ⟨f, 10, none⟩ v'))) := fun v' w' o' sp => by
  have fa : Fr no X2 (X2.alloc (.cells #[.int .i64 (i : Int)] 3)) := (Fr.refl no X2).alloc _ _
  have fz : ∀ k, (Value.slice vo s.W.length vc).ownBlock = some k → c ≤ k := hvc
  have Ea := fa.heap E2 (fun f => f)
  have E3 := sp.1.heap Ea (fun e => by have := fz _ e; omega)
  have f4 : Fr (fun k => k = f) w' (w'.setCell ⟨f, 10, none⟩ v') := (Fr.refl (fun k => k = f) w').setCell (p := ⟨f, 10, none⟩) (fun _ => rfl) _
  have E4 : (w'.setCell ⟨f, 10, none⟩ v').heap[f]? = _ := set_at E3
  have sz : X2.heap.size ≤ (X2.alloc (.cells #[.int .i64 (i : Int)] 3)).heap.size := fa.size
  have szw := fX.size
  have nv : ∀ k, v'.ownBlock = some k → c ≤ k := fun k hk => by
   by_cases e : k < (X2.alloc (.cells #[.int .i64 (i : Int)] 3)).heap.size
   · exact fz k (sp.2 k e hk)
   · omega
  have fW : Fr (fun k => k = S ∨ k = C ∨ c ≤ k) w w' := (fX.mono (fun _ _ e => e.elim .inl (fun e => .inr (.inl e)))).trans ((fa.mono (fun _ _ e => e.elim)).trans (sp.1.mono (fun k _ e => .inr (.inr (fz k e)))) (fun _ _ e => e) (fun _ _ e => e)) (fun _ _ e => e) (fun _ _ e => e)
  have fT : Fr (Tw f S C c) w (w'.setCell ⟨f, 10, none⟩ v') := (fW.mono (U := Tw f S C c) (fun _ _ e => .inr e)).trans (f4.mono (U := Tw f S C c) (fun _ _ e => .inl e)) (fun _ _ e => e) (fun _ _ e => e)
  have fI : Fr (Ti f S C w) w (w'.setCell ⟨f, 10, none⟩ v') := by
   refine ((fX.mono (U := Ti f S C w) (fun _ _ e => e.elim (fun e => .inr (.inl e)) (fun e => .inr (.inr (.inl e))))).trans ((fa.mono (U := Ti f S C w) (fun _ _ e => e.elim)).trans (sp.1.mono (U := Ti f S C w) (fun k _ e => .inr (.inr (.inr (hv.tag e))))) (fun _ _ e => e) (fun _ _ e => e)) (fun _ _ e => e) (fun _ _ e => e)).trans (f4.mono (U := Ti f S C w) (fun _ _ e => .inl e)) (fun _ _ e => e) (fun _ _ e => e)
  refine ⟨⟨_, (cell_at (o := 10) E3).trans rfl⟩, frozen_at E3, ⟨⟨⟨a0, a1, a2, a3, a4, a5, cs, hq, hc, v', E4, hsl, o'.kept f4 (fun k hk e => by have := nv k hk; omega), nv⟩, (((oA.keep fa).kept sp.1 (fun k hk e => by simp [Value.ownBlock] at hk; have := fz k e; omega)).kept f4 (fun k hk e => by simp [Value.ownBlock] at hk; omega)), (((oR.keep fa).kept sp.1 (fun k hk e => by simp [Value.ownBlock] at hk; have := fz k e; omega)).kept f4 (fun k hk e => by simp [Value.ownBlock] at hk; omega)), by simp [HLA], by simp [HLR], fun x hx => ?_, KW.base.new fT (fun k hk e => by have := KW.bs; rcases e with e | e | e | e <;> omega), KW.bs, ?_, KW.tr, KW.few⟩, fI⟩⟩
  · rcases List.mem_or_eq_of_mem_set hx with hx | rfl
    · exact KW.ha x hx
    · exact hl
  · have := fT.size
    omega
 have HOV : Hid (H.OwnG elJ (X2.alloc (.cells #[.int .i64 (i : Int)] 3)) (.slice vo s.W.length vc) s.W ∧ s.W.length ≤ 1000) := ⟨hv2.keep ((Fr.refl no X2).alloc _ _), hwl⟩
 have d9 := F.cell c9 (fun f => f)
 have dR := F.cell cR (fun f => f)
 have HL : Hid (∀ w', Fr no W w' → w'.cell? ⟨f, 8, none⟩ = some (.slice (some ⟨S, 0, none⟩) cd.length cd.length) ∧ w'.cell? ⟨f, 9, none⟩ = some (.slice (some ⟨C, 0, none⟩) cd.length cd.length) ∧ w'.heap[w.heap.size]? = some (.cells (hlC h).toArray 99 (0, 0))) := fun w' hf => ⟨hf.cell (F.cell c8 (fun f => f)) (fun f => f), hf.cell (F.cell c9 (fun f => f)) (fun f => f), hf.heap EB (fun f => f)⟩
 have HS0 : Hid (Fr no W W.drew) := (Fr.refl no W).drew
 have H1 : Hid _ := r1
 have H2 : Hid _ := r2
 clear E E2 hsl hv hvc c8 c9 cR F EB hcur hln hcsz hmc HLT HLA HLR hW9 r1 hX1 f1 hmc1 cR1 f2 r2 oA oR hX2 fX hv2 KW hr
 unfold hlV
 generalize hA : (hlC h).toArray = A at *
 generalize cd.length = n at *
 generalize hwm : s.W.length = m at *
 go_enter Tryz.func59, Tryz.ntmps59
 go_wp2_with fail
 refine late_begin (S := fun w' => Fr no W w') (g := 12) (by kernel_rfl) ?_
 refine lateP 0 (ptr f 0) rfl (fun _ => ev_move 0 _ rfl (by kernel_rfl)) (fun _ => HS0.out) ?_
 refine lateP 1 (ptr f 0) rfl (fun _ => ev_nil 23 ⟨f, 0, none⟩ rfl (by kernel_rfl)) (fun _ => HS0.out) ?_
 refine lateP 2 (ptr f 8) rfl (fun _ => ev_field 102 24 1 (ptr f 0) _ rfl (by kernel_rfl) (by kernel_rfl)) (fun _ => HS0.out) ?_
 refine lateN #[true, true, true, false, false, false, false, false, false, false, false, false, false, false, false] ⟨#[ptr f 0, .int .i64 (i : Int), .agg A, undef, undef, ptr w.heap.size 0, .bool false, ptr f 0, ptr f 0, ptr f 9, .slice (some ⟨C, 0, none⟩) n n, .int .i64 (i : Int), ptr C i, .bool false, undef, undef, undef, undef, undef, undef, undef, undef, undef, ptr f 0, ptr f 0, ptr f 8, undef, undef, undef, undef, undef, undef, undef, undef, undef, undef, undef, undef, undef, undef, undef, undef, undef, undef, undef, undef], []⟩ ?_
 refine lateT 3 (.slice (some ⟨S, 0, none⟩) n n) rfl (fun w' hS => ev_load 100 25 (ptr f 8) _ rfl (by kernel_rfl) (by simp [go_sem, (HL.out w' hS).1])) HS0.out ?_
 refine lateP 4 (.int .i64 (i : Int)) rfl (fun _ => ev_move 1 _ rfl (by kernel_rfl)) (fun _ => HS0.out) ?_
 refine lateP 5 (ptr f 0) rfl (fun _ => ev_move 0 _ rfl (by kernel_rfl)) (fun _ => HS0.out) ?_
 refine lateN #[true, true, true, true, true, true, false, false, false, false, false, false, false, false, false] ⟨#[ptr f 0, .int .i64 (i : Int), .agg A, undef, undef, ptr w.heap.size 0, .bool false, ptr f 0, ptr f 0, ptr f 9, .slice (some ⟨C, 0, none⟩) n n, .int .i64 (i : Int), ptr C i, .bool false, undef, undef, undef, undef, undef, undef, undef, undef, undef, ptr f 0, ptr f 0, ptr f 8, .slice (some ⟨S, 0, none⟩) n n, .int .i64 (i : Int), ptr f 0, undef, undef, undef, undef, undef, undef, undef, undef, undef, undef, undef, undef, undef, undef, undef, undef, undef], []⟩ ?_
 refine lateP 6 (ptr f 0) rfl (fun _ => ev_nil 28 ⟨f, 0, none⟩ rfl (by kernel_rfl)) (fun _ => HS0.out) ?_
 refine lateP 7 (ptr f 9) rfl (fun _ => ev_field 102 29 2 (ptr f 0) _ rfl (by kernel_rfl) (by kernel_rfl)) (fun _ => HS0.out) ?_
 refine lateT 8 (.slice (some ⟨C, 0, none⟩) n n) rfl (fun w' hS => ev_load 56 30 (ptr f 9) _ rfl (by kernel_rfl) (by simp [go_sem, (HL.out w' hS).2.1])) HS0.out ?_
 refine lateN #[true, true, true, true, true, true, true, true, true, false, false, false, false, false, false] ⟨#[ptr f 0, .int .i64 (i : Int), .agg A, undef, undef, ptr w.heap.size 0, .bool false, ptr f 0, ptr f 0, ptr f 9, .slice (some ⟨C, 0, none⟩) n n, .int .i64 (i : Int), ptr C i, .bool false, undef, undef, undef, undef, undef, undef, undef, undef, undef, ptr f 0, ptr f 0, ptr f 8, .slice (some ⟨S, 0, none⟩) n n, .int .i64 (i : Int), ptr f 0, ptr f 0, ptr f 9, .slice (some ⟨C, 0, none⟩) n n, undef, undef, undef, undef, undef, undef, undef, undef, undef, undef, undef, undef, undef, undef], []⟩ ?_
 refine lateP 9 (.int .i64 (i : Int)) rfl (fun _ => ev_move 1 _ rfl (by kernel_rfl)) (fun _ => HS0.out) ?_
 refine lateT 10 (.agg A) rfl (fun w' hS => ev_load 99 5 (ptr w.heap.size 0) _ rfl (by kernel_rfl) (load_row w' w.heap.size 99 _ _ (HL.out w' hS).2.2 Tryz.underlying99 rfl (by rw [← hA]; kernel_rfl))) HS0.out ?_
 refine lateN #[true, true, true, true, true, true, true, true, true, true, true, false, false, false, false] ⟨#[ptr f 0, .int .i64 (i : Int), .agg A, undef, undef, ptr w.heap.size 0, .bool false, ptr f 0, ptr f 0, ptr f 9, .slice (some ⟨C, 0, none⟩) n n, .int .i64 (i : Int), ptr C i, .bool false, undef, undef, undef, undef, undef, undef, undef, undef, undef, ptr f 0, ptr f 0, ptr f 8, .slice (some ⟨S, 0, none⟩) n n, .int .i64 (i : Int), ptr f 0, ptr f 0, ptr f 9, .slice (some ⟨C, 0, none⟩) n n, .int .i64 (i : Int), .agg A, undef, undef, undef, undef, undef, undef, undef, undef, undef, undef, undef, undef], []⟩ ?_
 refine lateP 11 (.pointer (some ⟨S, i * 7, none⟩)) rfl (fun _ => ev_index 100 26 27 (.slice (some ⟨S, 0, none⟩) n n) (.int .i64 (i : Int)) _ rfl (by kernel_rfl) (by kernel_rfl) (by simp [go_sem, hii])) (fun _ => HS0.out) ?_
 refine lateN #[true, true, true, true, true, true, true, true, true, true, true, true, false, false, false] ⟨#[ptr f 0, .int .i64 (i : Int), .agg A, undef, undef, ptr w.heap.size 0, .bool false, ptr f 0, ptr f 0, ptr f 9, .slice (some ⟨C, 0, none⟩) n n, .int .i64 (i : Int), ptr C i, .bool false, undef, undef, undef, undef, undef, undef, undef, undef, undef, ptr f 0, ptr f 0, ptr f 8, .slice (some ⟨S, 0, none⟩) n n, .int .i64 (i : Int), ptr f 0, ptr f 0, ptr f 9, .slice (some ⟨C, 0, none⟩) n n, .int .i64 (i : Int), .agg A, .pointer (some ⟨S, i * 7, none⟩), undef, undef, undef, undef, undef, undef, undef, undef, undef, undef, undef], []⟩ ?_
 refine late_all [12] (by kernel_rfl) (by simp) (fun jj hjj => ?_)
 obtain rfl := one_of hjj
 refine late_skip rfl rfl (ev_store 99 34 33 (.pointer (some ⟨S, i * 7, none⟩)) (.agg A) X1 rfl (by kernel_rfl) (by kernel_rfl) H1.out) ?_
 refine ⟨(fun h => Bool.noConfusion (show true = false from h)), ?_⟩
 refine lateN #[true, true, true, true, true, true, true, true, true, true, true, true, true, false, false] ⟨#[ptr f 0, .int .i64 (i : Int), .agg A, undef, undef, ptr w.heap.size 0, .bool false, ptr f 0, ptr f 0, ptr f 9, .slice (some ⟨C, 0, none⟩) n n, .int .i64 (i : Int), ptr C i, .bool false, undef, undef, undef, undef, undef, undef, undef, undef, undef, ptr f 0, ptr f 0, ptr f 8, .slice (some ⟨S, 0, none⟩) n n, .int .i64 (i : Int), ptr f 0, ptr f 0, ptr f 9, .slice (some ⟨C, 0, none⟩) n n, .int .i64 (i : Int), .agg A, .pointer (some ⟨S, i * 7, none⟩), undef, undef, undef, undef, undef, undef, undef, undef, undef, undef, undef], []⟩ ?_
 refine lateP 13 (ptr C i) rfl (fun _ => ev_index 56 31 32 (.slice (some ⟨C, 0, none⟩) n n) (.int .i64 (i : Int)) _ rfl (by kernel_rfl) (by kernel_rfl) (by simp [go_sem, hii])) (fun h => Bool.noConfusion (show true = false from h)) ?_
 refine late_all [14] (by kernel_rfl) (by simp) (fun jj hjj => ?_)
 obtain rfl := one_of hjj
 refine late_skip rfl rfl (ev_storeC 4 35 (.bool true) (ptr C i) X2 rfl (by kernel_rfl) H2.out) ?_
 refine ⟨(fun h => Bool.noConfusion (show true = false from h)), ?_⟩
 refine lateN #[true, true, true, true, true, true, true, true, true, true, true, true, true, true, true] ⟨#[ptr f 0, .int .i64 (i : Int), .agg A, undef, undef, ptr w.heap.size 0, .bool false, ptr f 0, ptr f 0, ptr f 9, .slice (some ⟨C, 0, none⟩) n n, .int .i64 (i : Int), ptr C i, .bool false, undef, undef, undef, undef, undef, undef, undef, undef, undef, ptr f 0, ptr f 0, ptr f 8, .slice (some ⟨S, 0, none⟩) n n, .int .i64 (i : Int), ptr f 0, ptr f 0, ptr f 9, .slice (some ⟨C, 0, none⟩) n n, .int .i64 (i : Int), .agg A, .pointer (some ⟨S, i * 7, none⟩), ptr C i, undef, undef, undef, undef, undef, undef, undef, undef, undef, undef], []⟩ ?_
 refine late_done (by kernel_rfl) ?_
 go_wp2_with (first | (at_builtin; refine H.wpList_apdG elJ_ok _ rfl rfl _ _ rfl (.slice vo m vc) s.W rfl HOV.out.1 _ rfl [(i : Int)] (H.srcG_one elJ_ok X2 (i : Int)) (by rw [hwm]; have := HOV.out.2; simp only [List.length_singleton]; omega) ?_; intro v' w2 o2 s2; obtain ⟨⟨u, hu⟩, fz2, HZ⟩ := LEM.out v' w2 o2 s2; obtain ⟨q2, k2, hv2⟩ := o2.form; generalize (s.W ++ [(i : Int)]).length = m2 at hv2; subst hv2; clear o2 s2 LEM) | fail)
 go_ret
 exact ⟨rfl, HZ.out⟩
theorem come_any (w0 w : World) (f S C c : Nat) (cd : List (Int × Int)) (s : Wk) (KW : WkAt w0 w f S C c cd s) (i : Nat) (hi : i < cd.length) (h : List Int) (hl : h.length ≤ 6) (hwl : s.W.length ≤ 1000) :
 Calls Tryz.prog 59 #[.pointer (some ⟨f, 0, none⟩), .int .i64 (i : Int), hlV h] w fun e w' => e = .returned (.bool (comeP i h s).1) ∧ WkAt w0 w' f S C c cd (comeP i h s).2 ∧ Fr (Ti f S C w) w w' := by
 obtain ⟨b, hb⟩ : ∃ b, s.R[i]? = some b := ⟨_, List.getElem?_eq_getElem (by rw [KW.lr]; exact hi)⟩
 obtain ⟨k, hk⟩ : ∃ k, s.A[i]? = some k := ⟨_, List.getElem?_eq_getElem (by rw [KW.la]; exact hi)⟩
 unfold comeP
 rw [getD_of hb false, getD_of hk []]
 cases b with
 | true =>
  rw [if_pos rfl]
  refine (come_seen w0 w f S C c cd s KW i hi h k hl hk hb).mono ?_
  rintro e w' ⟨rfl, fr⟩
  exact ⟨rfl, KW.keep fr, fr.mono (fun _ _ e => e.elim)⟩
 | false =>
  rw [if_neg (by simp)]
  exact come_new w0 w f S C c cd s KW i hi h hl hb hwl
theorem WkAt.handle {w0 w : World} {f S C c : Nat} {cd : List (Int × Int)} {s : Wk} (KW : WkAt w0 w f S C c cd s) (i : Nat) (hi : i < cd.length) : Calls Tryz.prog 99 #[.pointer (some ⟨f, 0, none⟩), .int .i64 (i : Int)] w fun e w' => e = .returned (.bool true) ∧ Fr no w w' := by
 obtain ⟨a0, a1, a2, a3, a4, a5, cs, hq, hc, v, E, -, -, -⟩ := KW.fb
 obtain ⟨k, hk⟩ : ∃ k, s.A[i]? = some k := ⟨_, List.getElem?_eq_getElem (by rw [KW.la]; exact hi)⟩
 have cS : ∀ j u, (hlC k)[j]? = some u → w.cell? ⟨S, i * 7 + j, none⟩ = some u := fun j u hj => by
  obtain ⟨ad, cap, e, -, -, hit⟩ := KW.A.sl okHl
  simp only [Value.slice.injEq] at e
  obtain ⟨rfl, -, -⟩ := e
  obtain ⟨b', off', e, hcs⟩ := hit i k hk
  simp only [Option.some.injEq, Addr.mk.injEq, and_true] at e
  obtain ⟨rfl, rfl⟩ := e
  have := hcs j u hj
  rw [Nat.zero_add] at this
  exact this
 exact handleW_any w f S cd.length i hi hq hc (cell_at (o := 7) E) (cell_at (o := 8) E) _ _ _ _ _ _ _ (cS 0 _ rfl) (cS 1 _ rfl) (cS 2 _ rfl) (cS 3 _ rfl) (cS 4 _ rfl) (cS 5 _ rfl) (cS 6 _ rfl)
end Go.Proofs.YtalgjpmaafooeaaGreatDoor
/- An instruction is passed with its locks. -/
namespace Go.Proofs.YtalgjpmaafooeaaGreatDoor
open Go.ChangeShapes Go.WideShapes Go.ChangeAt Go.RowKit
open H (ix NewV)
def passP (cd : List (Int × Int)) (i : Nat) (s : Wk) : Bool × Wk :=
 if (behP (cd.getD i (0, 0)) (s.A.getD i [])).2 = false then (false, s)
 else if (if has (cd.getD i (0, 0)).1 1 = false then comeP (i + 1) (behP (cd.getD i (0, 0)) (s.A.getD i [])).1 s else (true, s)).1 = false then (false, (if has (cd.getD i (0, 0)).1 1 = false then comeP (i + 1) (behP (cd.getD i (0, 0)) (s.A.getD i [])).1 s else (true, s)).2)
 else if has (cd.getD i (0, 0)).1 2 = true then comeP (cd.getD i (0, 0)).2.toNat (behP (cd.getD i (0, 0)) (s.A.getD i [])).1 (if has (cd.getD i (0, 0)).1 1 = false then comeP (i + 1) (behP (cd.getD i (0, 0)) (s.A.getD i [])).1 s else (true, s)).2
 else (true, (if has (cd.getD i (0, 0)).1 1 = false then comeP (i + 1) (behP (cd.getD i (0, 0)) (s.A.getD i [])).1 s else (true, s)).2)
def okW (cd : List (Int × Int)) (i : Nat) (s : Wk) : Prop := s.W.length ≤ 900 ∧ (has (cd.getD i (0, 0)).1 1 = false → i + 1 < cd.length) ∧ (has (cd.getD i (0, 0)).1 2 = true → 0 ≤ (cd.getD i (0, 0)).2 ∧ (cd.getD i (0, 0)).2.toNat < cd.length)
instance (cd : List (Int × Int)) (i : Nat) (s : Wk) : Decidable (okW cd i s) := by unfold okW; infer_instance
theorem comeP_W (i : Nat) (h : List Int) (s : Wk) : (comeP i h s).2.W.length ≤ s.W.length + 1 := by
 unfold comeP
 split
 · simp
 · simp
set_option maxRecDepth 100000 in
set_option maxHeartbeats 8000000 in
theorem pass_any (w0 w : World) (f S C c : Nat) (cd : List (Int × Int)) (s : Wk) (KW : WkAt w0 w f S C c cd s) (i : Nat) (hi : i < cd.length) (ok : okW cd i s) :
 Calls Tryz.prog 60 #[.pointer (some ⟨f, 0, none⟩), .int .i64 (i : Int)] w fun e w' => e = .returned (.bool (passP cd i s).1) ∧ WkAt w0 w' f S C c cd (passP cd i s).2 := by
 obtain ⟨a0, a1, a2, a3, a4, a5, cs, hq, hc, v, E, hsl, -, -⟩ := KW.fb
 obtain ⟨ins, hins⟩ : ∃ ins, cd[i]? = some ins := ⟨_, List.getElem?_eq_getElem hi⟩
 obtain ⟨k, hk⟩ : ∃ k, s.A[i]? = some k := ⟨_, List.getElem?_eq_getElem (by rw [KW.la]; exact hi)⟩
 have hkl : k.length ≤ 6 := KW.ha k (List.mem_of_getElem? hk)
 unfold okW at ok
 have hR : passP cd i s = passP cd i s := rfl
 conv at hR => rhs; unfold passP
 rw [getD_of hins (0, 0)] at ok hR
 rw [getD_of hk []] at hR
 generalize passP cd i s = RR at *
 have hbl := behP_len ins k hkl
 obtain ⟨op, ar⟩ := ins
 generalize hbp : behP (op, ar) k = bp at *
 obtain ⟨h', b⟩ := bp
 simp only at ok hbl hR
 have HR : Hid _ := hR
 -- the instruction's cells
 obtain ⟨ad, cap, e, hcap, -, hit⟩ := hsl
 subst e
 obtain ⟨cb, co, rfl, hcs⟩ := hit i (op, ar) hins
 have k0 : w0.cell? ⟨cb, co + i * 2, none⟩ = some (.int .i64 op) := by simpa [elIn] using hcs 0 _ rfl
 have k1 : w0.cell? ⟨cb, co + i * 2 + 1, none⟩ = some (.int .i64 ar) := by simpa [elIn] using hcs 1 _ rfl
 have k0w := KW.base.cell k0 (fun f => f)
 have k1w := KW.base.cell k1 (fun f => f)
 have c6 : w.cell? ⟨f, 6, none⟩ = some (.slice (some ⟨cb, co, none⟩) cd.length cap) := cell_at (o := 6) E
 have c8 : w.cell? ⟨f, 8, none⟩ = some (.slice (some ⟨S, 0, none⟩) cd.length cd.length) := cell_at (o := 8) E
 have cS : ∀ j u, (hlC k)[j]? = some u → w.cell? ⟨S, i * 7 + j, none⟩ = some u := fun j u hj => by
  obtain ⟨ad, cap, e, -, -, hit⟩ := KW.A.sl okHl
  simp only [Value.slice.injEq] at e
  obtain ⟨rfl, -, -⟩ := e
  obtain ⟨b', off', e, hcs⟩ := hit i k hk
  simp only [Option.some.injEq, Addr.mk.injEq, and_true] at e
  obtain ⟨rfl, rfl⟩ := e
  have := hcs j u hj
  rw [Nat.zero_add] at this
  exact this
 have hii : (i : Int) < (cd.length : Int) := by omega
 have F : Fr no w (w.alloc (.cells #[.int .i64 op, .int .i64 ar] 27)) := (Fr.refl no w).alloc _ _
 have EB : (w.alloc (.cells #[.int .i64 op, .int .i64 ar] 27)).heap[w.heap.size]? = some (.cells #[.int .i64 op, .int .i64 ar] 27 (0, 0)) := heap_alloc_new w _
 have hszw : w.heap.size < (w.alloc (.cells #[.int .i64 op, .int .i64 ar] 27)).heap.size := by rw [size_alloc]; omega
 generalize hW : w.alloc (.cells #[.int .i64 op, .int .i64 ar] 27) = W at *
 have BH : ∀ X, Calls Tryz.prog 97 #[.agg #[.int .i64 op, .int .i64 ar], hlV k] X fun e w' => e = .returned (.tuple #[hlV h', .bool b]) ∧ Fr no X w' := fun X => by
  have := behind_any X (op, ar) k hkl
  rw [hbp] at this
  exact this
 have HL : Hid (∀ w', Fr no W w' → w'.cell? ⟨f, 8, none⟩ = some (.slice (some ⟨S, 0, none⟩) cd.length cd.length) ∧ (∀ j u, (hlC k)[j]? = some u → w'.cell? ⟨S, i * 7 + j, none⟩ = some u) ∧ w'.heap[w.heap.size]? = some (.cells #[.int .i64 op, .int .i64 ar] 27 (0, 0))) := fun w' hf => ⟨hf.cell (F.cell c8 (fun f => f)) (fun f => f), fun j u hj => hf.cell (F.cell (cS j u hj) (fun f => f)) (fun f => f), hf.heap EB (fun f => f)⟩
 have HS0 : Hid (Fr no W W.drew) := (Fr.refl no W).drew
 have HKW : Hid (∀ w', Fr no W w' → WkAt w0 w' f S C c cd s) := fun w' hf => (KW.keep F).keep hf
 have HOK : Hid _ := ok
 have HBL : Hid (h'.length ≤ 6) := hbl
 have HBH : Hid _ := BH
 have HTR : Hid (∀ w', Fr no w0 w' → Tr w') := fun w' hf => Tr.kept KW.tr hf
 have HI : Hid (i < cd.length) := hi
 have few := KW.few
 have hcw : c ≤ w.heap.size := KW.lt.2.2.2.2.2.2
 clear hR E hit hcs k0 k1 c8 cS F EB BH KW hk hins hbp ok hbl hkl hcap hi
 obtain ⟨x0, x1, x2, x3, x4, x5, x6, hx⟩ : ∃ x0 x1 x2 x3 x4 x5 x6 : Int, hlC h' = [.int .i64 x0, .int .i64 x1, .int .i64 x2, .int .i64 x3, .int .i64 x4, .int .i64 x5, .int .i64 x6] := ⟨_, _, _, _, _, _, _, rfl⟩
 have HV : Hid (hlV h' = .agg #[.int .i64 x0, .int .i64 x1, .int .i64 x2, .int .i64 x3, .int .i64 x4, .int .i64 x5, .int .i64 x6]) := by show hlV h' = _; unfold hlV; rw [hx]
 generalize hn : cd.length = n at *
 clear hx
 have HC : Hid (c ≤ w.heap.size ∧ w.heap.size < W.heap.size) := ⟨hcw, hszw⟩
 rw [HV.out] at HBH
 go_enter Tryz.func60, Tryz.ntmps60
 go_wp2_with fail
 refine late_begin (S := fun w' => Fr no W w') (g := 13) (by kernel_rfl) ?_
 refine lateT 0 (.agg #[.int .i64 op, .int .i64 ar]) rfl (fun w' hS => ev_load 27 5 (ptr w.heap.size 0) _ rfl (by kernel_rfl) (load_row w' w.heap.size 27 _ _ (HL.out w' hS).2.2 Tryz.underlying27 rfl (by kernel_rfl))) HS0.out ?_
 refine lateP 1 (ptr f 0) rfl (fun _ => ev_move 0 _ rfl (by kernel_rfl)) (fun _ => HS0.out) ?_
 refine lateP 2 (ptr f 0) rfl (fun _ => ev_nil 18 ⟨f, 0, none⟩ rfl (by kernel_rfl)) (fun _ => HS0.out) ?_
 refine lateP 3 (ptr f 8) rfl (fun _ => ev_field 102 19 1 (ptr f 0) _ rfl (by kernel_rfl) (by kernel_rfl)) (fun _ => HS0.out) ?_
 refine lateN #[true, true, true, true, false, false, false, false, false, false, false, false, false, false, false] ⟨#[ptr f 0, .int .i64 (i : Int), undef, undef, .bool false, ptr w.heap.size 0, undef, undef, ptr f 0, ptr f 0, ptr f 0, ptr f 6, .slice (some ⟨cb, co, none⟩) n cap, .int .i64 (i : Int), .pointer (some ⟨cb, co + i * 2, none⟩), .agg #[.int .i64 op, .int .i64 ar], undef, .agg #[.int .i64 op, .int .i64 ar], ptr f 0, ptr f 0, ptr f 8, undef, undef, undef, undef, undef, undef, undef, undef, undef, undef, undef, undef, undef, undef, undef, undef, undef, undef, undef, undef, undef, undef, undef, undef, undef, undef, undef, undef, undef, undef, undef, undef, undef, undef, undef, undef], []⟩ ?_
 refine lateT 4 (.slice (some ⟨S, 0, none⟩) n n) rfl (fun w' hS => ev_load 100 20 (ptr f 8) _ rfl (by kernel_rfl) (by simp [go_sem, (HL.out w' hS).1])) HS0.out ?_
 refine lateP 5 (.int .i64 (i : Int)) rfl (fun _ => ev_move 1 _ rfl (by kernel_rfl)) (fun _ => HS0.out) ?_
 refine lateP 6 (.pointer (some ⟨S, i * 7, none⟩)) rfl (fun _ => ev_index 100 21 22 (.slice (some ⟨S, 0, none⟩) n n) (.int .i64 (i : Int)) _ rfl (by kernel_rfl) (by kernel_rfl) (by simp [go_sem, hii])) (fun _ => HS0.out) ?_
 refine lateN #[true, true, true, true, true, true, true, false, false, false, false, false, false, false, false] ⟨#[ptr f 0, .int .i64 (i : Int), undef, undef, .bool false, ptr w.heap.size 0, undef, undef, ptr f 0, ptr f 0, ptr f 0, ptr f 6, .slice (some ⟨cb, co, none⟩) n cap, .int .i64 (i : Int), .pointer (some ⟨cb, co + i * 2, none⟩), .agg #[.int .i64 op, .int .i64 ar], undef, .agg #[.int .i64 op, .int .i64 ar], ptr f 0, ptr f 0, ptr f 8, .slice (some ⟨S, 0, none⟩) n n, .int .i64 (i : Int), .pointer (some ⟨S, i * 7, none⟩), undef, undef, undef, undef, undef, undef, undef, undef, undef, undef, undef, undef, undef, undef, undef, undef, undef, undef, undef, undef, undef, undef, undef, undef, undef, undef, undef, undef, undef, undef, undef, undef, undef], []⟩ ?_
 refine lateT 7 (hlV k) rfl (fun w' hS => ev_load 99 23 (.pointer (some ⟨S, i * 7, none⟩)) _ rfl (by kernel_rfl) (run_loadAt_mid (P := Tryz.prog) w' S (i * 7) 99 (hlC k) _ (HL.out w' hS).2.1 Tryz.underlying99 rfl (by kernel_rfl))) HS0.out ?_
 refine lateN #[true, true, true, true, true, true, true, true, false, false, false, false, false, false, false] ⟨#[ptr f 0, .int .i64 (i : Int), undef, undef, .bool false, ptr w.heap.size 0, undef, undef, ptr f 0, ptr f 0, ptr f 0, ptr f 6, .slice (some ⟨cb, co, none⟩) n cap, .int .i64 (i : Int), .pointer (some ⟨cb, co + i * 2, none⟩), .agg #[.int .i64 op, .int .i64 ar], undef, .agg #[.int .i64 op, .int .i64 ar], ptr f 0, ptr f 0, ptr f 8, .slice (some ⟨S, 0, none⟩) n n, .int .i64 (i : Int), .pointer (some ⟨S, i * 7, none⟩), hlV k, undef, undef, undef, undef, undef, undef, undef, undef, undef, undef, undef, undef, undef, undef, undef, undef, undef, undef, undef, undef, undef, undef, undef, undef, undef, undef, undef, undef, undef, undef, undef, undef], []⟩ ?_
 refine with_cont (m := 2) Nat #[true, true, true, true, true, true, true, true, true, true, true, true, true, false, false] (fun q => ⟨#[ptr f 0, .int .i64 (i : Int), undef, undef, .bool false, ptr w.heap.size 0, ptr q 0, undef, ptr f 0, ptr f 0, ptr f 0, ptr f 6, .slice (some ⟨cb, co, none⟩) n cap, .int .i64 (i : Int), .pointer (some ⟨cb, co + i * 2, none⟩), .agg #[.int .i64 op, .int .i64 ar], .tuple #[.agg #[.int .i64 x0, .int .i64 x1, .int .i64 x2, .int .i64 x3, .int .i64 x4, .int .i64 x5, .int .i64 x6], .bool b], .agg #[.int .i64 op, .int .i64 ar], ptr f 0, ptr f 0, ptr f 8, .slice (some ⟨S, 0, none⟩) n n, .int .i64 (i : Int), .pointer (some ⟨S, i * 7, none⟩), hlV k, .tuple #[.agg #[.int .i64 x0, .int .i64 x1, .int .i64 x2, .int .i64 x3, .int .i64 x4, .int .i64 x5, .int .i64 x6], .bool b], .agg #[.int .i64 x0, .int .i64 x1, .int .i64 x2, .int .i64 x3, .int .i64 x4, .int .i64 x5, .int .i64 x6], .bool b, undef, undef, undef, undef, undef, undef, undef, undef, undef, undef, undef, undef, undef, undef, undef, undef, undef, undef, undef, undef, undef, undef, undef, undef, undef, undef, undef, undef, undef], []⟩) (fun q X => Fr no W X ∧ X.heap[q]? = some (.cells #[.int .i64 0, .int .i64 0, .int .i64 0, .int .i64 0, .int .i64 0, .int .i64 0, .int .i64 0] 99 (0, 0)) ∧ W.heap.size ≤ q) ?_ (fun cont => ?_)
 · rintro q X ⟨fx, hqX, hqs⟩
   obtain ⟨X2, r2, h2, F2⟩ := store_mid X q 0 99 99 #[.int .i64 0, .int .i64 0, .int .i64 0, .int .i64 0, .int .i64 0, .int .i64 0, .int .i64 0] #[.int .i64 x0, .int .i64 x1, .int .i64 x2, .int .i64 x3, .int .i64 x4, .int .i64 x5, .int .i64 x6] hqX (Nat.le_refl 7) (by kernel_rfl) (by kernel_rfl)
   refine late_all [13] (by kernel_rfl) (by simp) (fun jj hjj => ?_)
   obtain rfl := one_of hjj
   refine late_skip rfl rfl (ev_store 99 6 26 (ptr q 0) (.agg #[.int .i64 x0, .int .i64 x1, .int .i64 x2, .int .i64 x3, .int .i64 x4, .int .i64 x5, .int .i64 x6]) X2 rfl (by kernel_rfl) (by kernel_rfl) r2) ?_
   refine ⟨(fun h => Bool.noConfusion (show true = false from h)), ?_⟩
   refine late_all [14] (by kernel_rfl) (by simp) (fun jj hjj => ?_)
   obtain rfl := one_of hjj
   refine late_op rfl rfl (ev_assign 27 (.bool b) rfl (by kernel_rfl)) ?_
   refine ⟨(fun h => Bool.noConfusion (show true = false from h)), ?_⟩
   refine lateN #[true, true, true, true, true, true, true, true, true, true, true, true, true, true, true] ⟨#[ptr f 0, .int .i64 (i : Int), undef, undef, .bool false, ptr w.heap.size 0, ptr q 0, .bool b, ptr f 0, ptr f 0, ptr f 0, ptr f 6, .slice (some ⟨cb, co, none⟩) n cap, .int .i64 (i : Int), .pointer (some ⟨cb, co + i * 2, none⟩), .agg #[.int .i64 op, .int .i64 ar], .tuple #[.agg #[.int .i64 x0, .int .i64 x1, .int .i64 x2, .int .i64 x3, .int .i64 x4, .int .i64 x5, .int .i64 x6], .bool b], .agg #[.int .i64 op, .int .i64 ar], ptr f 0, ptr f 0, ptr f 8, .slice (some ⟨S, 0, none⟩) n n, .int .i64 (i : Int), .pointer (some ⟨S, i * 7, none⟩), hlV k, .tuple #[.agg #[.int .i64 x0, .int .i64 x1, .int .i64 x2, .int .i64 x3, .int .i64 x4, .int .i64 x5, .int .i64 x6], .bool b], .agg #[.int .i64 x0, .int .i64 x1, .int .i64 x2, .int .i64 x3, .int .i64 x4, .int .i64 x5, .int .i64 x6], .bool b, undef, undef, undef, undef, undef, undef, undef, undef, undef, undef, undef, undef, undef, undef, undef, undef, undef, undef, undef, undef, undef, undef, undef, undef, undef, undef, undef, undef, undef], []⟩ ?_
   refine late_done (by kernel_rfl) ?_
   have h2' : X2.heap[q]? = some (.cells #[.int .i64 x0, .int .i64 x1, .int .i64 x2, .int .i64 x3, .int .i64 x4, .int .i64 x5, .int .i64 x6] 99 (0, 0)) := h2
   have FX : Fr no W X2 := fx.new F2 (fun b hb e => by omega)
   have KX := HKW.out X2 FX
   have HB2 := (HL.out X2 FX).2.2
   have klt := KX.lt
   have KEEP : Hid (∀ w', Fr (Ti f S C X2) X2 w' → w'.heap[w.heap.size]? = some (.cells #[.int .i64 op, .int .i64 ar] 27 (0, 0)) ∧ w'.heap[q]? = some (.cells #[.int .i64 x0, .int .i64 x1, .int .i64 x2, .int .i64 x3, .int .i64 x4, .int .i64 x5, .int .i64 x6] 99 (0, 0))) := fun w' hf => by
    have hc0 := HC.out
    refine ⟨hf.heap HB2 (fun e => ?_), hf.heap h2' (fun e => ?_)⟩
    · rcases e with e | e | e | ⟨cu, e⟩
      · omega
      · omega
      · omega
      · rw [HB2] at e
        simp at e
    · rcases e with e | e | e | ⟨cu, e⟩
      · omega
      · omega
      · omega
      · rw [h2'] at e
        simp at e
   obtain ⟨b0, b1⟩ := bx2 HB2
   obtain ⟨d0, d1, d2, d3, d4, d5, d6⟩ := bx7 h2'
   have ST := stops_any X2 (HTR.out X2 KX.base) op
   have JU := jumps_any X2 (HTR.out X2 KX.base) op
   have HKX : Hid _ := KX
   clear r2 h2 F2 fx hqX FX HB2 h2' klt
   cases b with
   | false =>
    clear ST JU
    go_wp2_with fail
    go_ret
    rw [HR.out]
    exact ⟨rfl, HKX.out⟩
   | true =>
    by_cases s1 : has op 1 = true
    · rw [s1] at ST
      go_wp2_with fail
      refine ST.mono ?_
      rintro e _ ⟨rfl, rfl⟩
      have HRE : Hid (RR = if has op 2 = true then comeP ar.toNat h' s else (true, s)) := by show RR = _; rw [HR.out]; simp [s1]
      have HWL : Hid (s.W.length ≤ 1000) := by have := HOK.out.1; show s.W.length ≤ 1000; omega
      clear ST
      by_cases s2 : has op 2 = true
      · rw [s2] at JU
        have har : ((ar.toNat : Nat) : Int) = ar := Int.toNat_of_nonneg (HOK.out.2.2 s2).1
        have C2 := come_any w0 _ f S C c cd s HKX.out ar.toNat (by rw [hn]; exact (HOK.out.2.2 s2).2) h' HBL.out HWL.out
        rw [HV.out, har] at C2
        rw [if_pos s2] at HRE
        generalize comeP ar.toNat h' s = cp at C2 HRE
        obtain ⟨cpb, cps⟩ := cp
        simp only at C2
        clear har
        go_wp2_with fail
        refine JU.mono ?_
        rintro e _ ⟨rfl, rfl⟩
        go_wp2_with fail
        refine C2.mono ?_
        rintro e w3 ⟨rfl, k3, -⟩
        have HK3 : Hid _ := k3
        clear C2 JU k3
        cases cpb with
        | false =>
         go_wp2_with fail
         go_ret
         rw [HRE.out]
         exact ⟨rfl, HK3.out⟩
        | true =>
         have HD := HK3.out.handle i (by rw [hn]; exact HI.out)
         go_wp2_with fail
         refine HD.mono ?_
         rintro e w9 ⟨rfl, f9⟩
         have HK9 : Hid _ := HK3.out.keep f9
         clear HD f9
         go_wp2_with fail
         go_ret
         rw [HRE.out]
         exact ⟨rfl, HK9.out⟩
      · have s2' : has op 2 = false := by simpa using s2
        rw [s2'] at JU
        rw [if_neg s2] at HRE
        have HD := HKX.out.handle i (by rw [hn]; exact HI.out)
        go_wp2_with fail
        refine JU.mono ?_
        rintro e _ ⟨rfl, rfl⟩
        clear JU
        go_wp2_with fail
        refine HD.mono ?_
        rintro e w9 ⟨rfl, f9⟩
        have HK9 : Hid _ := HKX.out.keep f9
        clear HD f9
        go_wp2_with fail
        go_ret
        rw [HRE.out]
        exact ⟨rfl, HK9.out⟩
    · have s1' : has op 1 = false := by simpa using s1
      rw [s1'] at ST
      have C1 := come_any w0 _ f S C c cd s HKX.out (i + 1) (by rw [hn]; exact HOK.out.2.1 s1') h' HBL.out (by have := HOK.out.1; omega)
      have e1 : ((i + 1 : Nat) : Int) = (i : Int) + 1 := by omega
      rw [HV.out, e1] at C1
      have hi200 : (i : Int) + 1 ≤ 1000 := by omega
      have hi0 : 0 ≤ (i : Int) := by omega
      go_wp2_with fail
      refine ST.mono ?_
      rintro e _ ⟨rfl, rfl⟩
      clear ST JU
      go_wp2_with fail
      refine C1.mono ?_
      rintro e w2 ⟨rfl, k2, f2⟩
      cases hb1 : (comeP (i + 1) h' s).1 with
      | false =>
       have HK2 : Hid _ := k2
       have HB1 : Hid _ := hb1
       clear C1 k2 f2 hb1
       go_wp2_with fail
       go_ret
       have hb1 := HB1.out
       rw [HR.out]
       exact ⟨by simp [s1', hb1], by simp only [s1', hb1, if_true, if_false, Bool.true_eq_false]; exact HK2.out⟩
      | true =>
       have HRE : Hid (RR = if has op 2 = true then comeP ar.toNat h' (comeP (i + 1) h' s).2 else (true, (comeP (i + 1) h' s).2)) := by show RR = _; rw [HR.out]; simp [s1', hb1]
       have HWL : Hid ((comeP (i + 1) h' s).2.W.length ≤ 1000) := by have := HOK.out.1; have := comeP_W (i + 1) h' s; show (comeP (i + 1) h' s).2.W.length ≤ 1000; omega
       obtain ⟨g1, g2⟩ := KEEP.out w2 f2
       obtain ⟨b0, b1⟩ := bx2 g1
       obtain ⟨d0, d1, d2, d3, d4, d5, d6⟩ := bx7 g2
       have JU := jumps_any w2 (HTR.out w2 k2.base) op
       have HKX : Hid _ := k2
       clear C1 k2 f2 g1 g2 hb1
       generalize (comeP (i + 1) h' s).2 = s at *
       by_cases s2 : has op 2 = true
       · rw [s2] at JU
         have har : ((ar.toNat : Nat) : Int) = ar := Int.toNat_of_nonneg (HOK.out.2.2 s2).1
         have C2 := come_any w0 _ f S C c cd s HKX.out ar.toNat (by rw [hn]; exact (HOK.out.2.2 s2).2) h' HBL.out HWL.out
         rw [HV.out, har] at C2
         rw [if_pos s2] at HRE
         generalize comeP ar.toNat h' s = cp at C2 HRE
         obtain ⟨cpb, cps⟩ := cp
         simp only at C2
         clear har
         go_wp2_with fail
         refine JU.mono ?_
         rintro e _ ⟨rfl, rfl⟩
         go_wp2_with fail
         refine C2.mono ?_
         rintro e w3 ⟨rfl, k3, -⟩
         have HK3 : Hid _ := k3
         clear C2 JU k3
         cases cpb with
         | false =>
          go_wp2_with fail
          go_ret
          rw [HRE.out]
          exact ⟨rfl, HK3.out⟩
         | true =>
          have HD := HK3.out.handle i (by rw [hn]; exact HI.out)
          go_wp2_with fail
          refine HD.mono ?_
          rintro e w9 ⟨rfl, f9⟩
          have HK9 : Hid _ := HK3.out.keep f9
          clear HD f9
          go_wp2_with fail
          go_ret
          rw [HRE.out]
          exact ⟨rfl, HK9.out⟩
       · have s2' : has op 2 = false := by simpa using s2
         rw [s2'] at JU
         rw [if_neg s2] at HRE
         have HD := HKX.out.handle i (by rw [hn]; exact HI.out)
         go_wp2_with fail
         refine JU.mono ?_
         rintro e _ ⟨rfl, rfl⟩
         clear JU
         go_wp2_with fail
         refine HD.mono ?_
         rintro e w9 ⟨rfl, f9⟩
         have HK9 : Hid _ := HKX.out.keep f9
         clear HD f9
         go_wp2_with fail
         go_ret
         rw [HRE.out]
         exact ⟨rfl, HK9.out⟩
 · refine late_all [8, 12] (by kernel_rfl) (by simp) (fun jj hjj => ?_)
   replace hjj := two_of hjj
   rcases hjj with rfl | rfl
   · refine late_call (f := 97) rfl rfl (by kernel_rfl) (R := fun v w' => v = .tuple #[.agg #[.int .i64 x0, .int .i64 x1, .int .i64 x2, .int .i64 x3, .int .i64 x4, .int .i64 x5, .int .i64 x6], .bool b] ∧ Fr no W.drew w') ((HBH.out W.drew).mono (fun e w' h => ⟨_, h.1, rfl, h.2⟩)) (fun v w1 hv => ?_)
     obtain ⟨rfl, gw1⟩ := hv
     have fw1 : Fr no W w1 := (HS0.out).new gw1 (fun _ _ f => f)
     refine ⟨fun _ => fw1, ?_⟩
     refine lateN #[true, true, true, true, true, true, true, true, true, false, false, false, false, false, false] ⟨#[ptr f 0, .int .i64 (i : Int), undef, undef, .bool false, ptr w.heap.size 0, undef, undef, ptr f 0, ptr f 0, ptr f 0, ptr f 6, .slice (some ⟨cb, co, none⟩) n cap, .int .i64 (i : Int), .pointer (some ⟨cb, co + i * 2, none⟩), .agg #[.int .i64 op, .int .i64 ar], undef, .agg #[.int .i64 op, .int .i64 ar], ptr f 0, ptr f 0, ptr f 8, .slice (some ⟨S, 0, none⟩) n n, .int .i64 (i : Int), .pointer (some ⟨S, i * 7, none⟩), hlV k, .tuple #[.agg #[.int .i64 x0, .int .i64 x1, .int .i64 x2, .int .i64 x3, .int .i64 x4, .int .i64 x5, .int .i64 x6], .bool b], undef, undef, undef, undef, undef, undef, undef, undef, undef, undef, undef, undef, undef, undef, undef, undef, undef, undef, undef, undef, undef, undef, undef, undef, undef, undef, undef, undef, undef, undef, undef], []⟩ ?_
     refine lateP 9 (.tuple #[.agg #[.int .i64 x0, .int .i64 x1, .int .i64 x2, .int .i64 x3, .int .i64 x4, .int .i64 x5, .int .i64 x6], .bool b]) rfl (fun _ => ev_move 25 _ rfl (by kernel_rfl)) (fun _ => fw1) ?_
     refine lateP 10 (.agg #[.int .i64 x0, .int .i64 x1, .int .i64 x2, .int .i64 x3, .int .i64 x4, .int .i64 x5, .int .i64 x6]) rfl (fun _ => by kernel_rfl) (fun _ => fw1) ?_
     refine lateP 11 (.bool b) rfl (fun _ => by kernel_rfl) (fun _ => fw1) ?_
     refine lateN #[true, true, true, true, true, true, true, true, true, true, true, true, false, false, false] ⟨#[ptr f 0, .int .i64 (i : Int), undef, undef, .bool false, ptr w.heap.size 0, undef, undef, ptr f 0, ptr f 0, ptr f 0, ptr f 6, .slice (some ⟨cb, co, none⟩) n cap, .int .i64 (i : Int), .pointer (some ⟨cb, co + i * 2, none⟩), .agg #[.int .i64 op, .int .i64 ar], .tuple #[.agg #[.int .i64 x0, .int .i64 x1, .int .i64 x2, .int .i64 x3, .int .i64 x4, .int .i64 x5, .int .i64 x6], .bool b], .agg #[.int .i64 op, .int .i64 ar], ptr f 0, ptr f 0, ptr f 8, .slice (some ⟨S, 0, none⟩) n n, .int .i64 (i : Int), .pointer (some ⟨S, i * 7, none⟩), hlV k, .tuple #[.agg #[.int .i64 x0, .int .i64 x1, .int .i64 x2, .int .i64 x3, .int .i64 x4, .int .i64 x5, .int .i64 x6], .bool b], .agg #[.int .i64 x0, .int .i64 x1, .int .i64 x2, .int .i64 x3, .int .i64 x4, .int .i64 x5, .int .i64 x6], .bool b, undef, undef, undef, undef, undef, undef, undef, undef, undef, undef, undef, undef, undef, undef, undef, undef, undef, undef, undef, undef, undef, undef, undef, undef, undef, undef, undef, undef, undef], []⟩ ?_
     refine late_all [12] (by kernel_rfl) (by simp) (fun jj hjj => ?_)
     obtain rfl := one_of hjj
     refine late_op rfl rfl (show _ = Result.ok (Next.value (ptr w1.heap.size 0)) (w1.alloc (.cells #[.int .i64 0, .int .i64 0, .int .i64 0, .int .i64 0, .int .i64 0, .int .i64 0, .int .i64 0] 99)) by kernel_rfl) ?_
     have fz : Fr no W (w1.alloc (.cells #[.int .i64 0, .int .i64 0, .int .i64 0, .int .i64 0, .int .i64 0, .int .i64 0, .int .i64 0] 99)) := fw1.alloc _ _
     refine ⟨fun _ => fz, ?_⟩
     exact lateN _ _ (cont w1.heap.size _ ⟨fz, heap_alloc_new w1 _, fw1.size⟩)
   · refine late_op rfl rfl (show _ = Result.ok (Next.value (ptr W.drew.heap.size 0)) (W.drew.alloc (.cells #[.int .i64 0, .int .i64 0, .int .i64 0, .int .i64 0, .int .i64 0, .int .i64 0, .int .i64 0] 99)) by kernel_rfl) ?_
     have fz : Fr no W (W.drew.alloc (.cells #[.int .i64 0, .int .i64 0, .int .i64 0, .int .i64 0, .int .i64 0, .int .i64 0, .int .i64 0] 99)) := HS0.out.alloc _ _
     have ez : (W.drew.alloc (.cells #[.int .i64 0, .int .i64 0, .int .i64 0, .int .i64 0, .int .i64 0, .int .i64 0, .int .i64 0] 99)).heap[W.drew.heap.size]? = some (.cells #[.int .i64 0, .int .i64 0, .int .i64 0, .int .i64 0, .int .i64 0, .int .i64 0, .int .i64 0] 99 (0, 0)) := heap_alloc_new W.drew _
     generalize W.drew.alloc (.cells #[.int .i64 0, .int .i64 0, .int .i64 0, .int .i64 0, .int .i64 0, .int .i64 0, .int .i64 0] 99) = X1 at *
     refine ⟨fun _ => fz, ?_⟩
     refine lateN #[true, true, true, true, true, true, true, true, false, false, false, false, true, false, false] ⟨#[ptr f 0, .int .i64 (i : Int), undef, undef, .bool false, ptr w.heap.size 0, ptr W.drew.heap.size 0, undef, ptr f 0, ptr f 0, ptr f 0, ptr f 6, .slice (some ⟨cb, co, none⟩) n cap, .int .i64 (i : Int), .pointer (some ⟨cb, co + i * 2, none⟩), .agg #[.int .i64 op, .int .i64 ar], undef, .agg #[.int .i64 op, .int .i64 ar], ptr f 0, ptr f 0, ptr f 8, .slice (some ⟨S, 0, none⟩) n n, .int .i64 (i : Int), .pointer (some ⟨S, i * 7, none⟩), hlV k, undef, undef, undef, undef, undef, undef, undef, undef, undef, undef, undef, undef, undef, undef, undef, undef, undef, undef, undef, undef, undef, undef, undef, undef, undef, undef, undef, undef, undef, undef, undef, undef], []⟩ ?_
     refine late_all [8] (by kernel_rfl) (by simp) (fun jj hjj => ?_)
     obtain rfl := one_of hjj
     refine late_call (f := 97) rfl rfl (by kernel_rfl) (R := fun v w' => v = .tuple #[.agg #[.int .i64 x0, .int .i64 x1, .int .i64 x2, .int .i64 x3, .int .i64 x4, .int .i64 x5, .int .i64 x6], .bool b] ∧ Fr no X1 w') ((HBH.out X1).mono (fun e w' h => ⟨_, h.1, rfl, h.2⟩)) (fun v w1 hv => ?_)
     obtain ⟨rfl, gw1⟩ := hv
     have fw1 : Fr no W w1 := (fz).new gw1 (fun _ _ f => f)
     refine ⟨fun _ => fw1, ?_⟩
     refine lateN #[true, true, true, true, true, true, true, true, true, false, false, false, true, false, false] ⟨#[ptr f 0, .int .i64 (i : Int), undef, undef, .bool false, ptr w.heap.size 0, ptr W.drew.heap.size 0, undef, ptr f 0, ptr f 0, ptr f 0, ptr f 6, .slice (some ⟨cb, co, none⟩) n cap, .int .i64 (i : Int), .pointer (some ⟨cb, co + i * 2, none⟩), .agg #[.int .i64 op, .int .i64 ar], undef, .agg #[.int .i64 op, .int .i64 ar], ptr f 0, ptr f 0, ptr f 8, .slice (some ⟨S, 0, none⟩) n n, .int .i64 (i : Int), .pointer (some ⟨S, i * 7, none⟩), hlV k, .tuple #[.agg #[.int .i64 x0, .int .i64 x1, .int .i64 x2, .int .i64 x3, .int .i64 x4, .int .i64 x5, .int .i64 x6], .bool b], undef, undef, undef, undef, undef, undef, undef, undef, undef, undef, undef, undef, undef, undef, undef, undef, undef, undef, undef, undef, undef, undef, undef, undef, undef, undef, undef, undef, undef, undef, undef], []⟩ ?_
     refine lateP 9 (.tuple #[.agg #[.int .i64 x0, .int .i64 x1, .int .i64 x2, .int .i64 x3, .int .i64 x4, .int .i64 x5, .int .i64 x6], .bool b]) rfl (fun _ => ev_move 25 _ rfl (by kernel_rfl)) (fun _ => fw1) ?_
     refine lateP 10 (.agg #[.int .i64 x0, .int .i64 x1, .int .i64 x2, .int .i64 x3, .int .i64 x4, .int .i64 x5, .int .i64 x6]) rfl (fun _ => by kernel_rfl) (fun _ => fw1) ?_
     refine lateP 11 (.bool b) rfl (fun _ => by kernel_rfl) (fun _ => fw1) ?_
     exact lateN _ _ (cont W.drew.heap.size _ ⟨fw1, gw1.heap ez (fun f => f), Nat.le_refl _⟩)
end Go.Proofs.YtalgjpmaafooeaaGreatDoor
