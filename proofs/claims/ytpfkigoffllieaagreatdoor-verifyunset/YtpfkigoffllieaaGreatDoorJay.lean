/- Where a method of Main begins. -/
import Derived.Test.YtpfkigoffllieaaGreatDoorJax
import Derived.Test.YtpfkigoffllieaaGreatDoorJav
import Derived.Laws.CopyRow
namespace Go.Proofs.YtpfkigoffllieaaGreatDoor
open Go.ChangeShapes Go.WideShapes Go.ChangeAt Go.RowKit
open H (ix NewV)

set_option maxRecDepth 100000 in
theorem mul64_12 (w : World) : Calls Tryz.prog 147 #[.int .u64 1, .int .u64 2] w fun e w' => e = .returned (.tuple #[.int .u64 0, .int .u64 2]) ∧ w' = w := by
  go_enter Tryz.func147, Tryz.ntmps147
  go_wp2_with fail
  go_ret2
  exact ⟨rfl, rfl⟩

set_option maxRecDepth 100000 in
theorem mul_12 (w : World) : Calls Tryz.prog 139 #[.int .u64 1, .int .u64 2] w fun e w' => e = .returned (.tuple #[.int .u64 0, .int .u64 2]) ∧ w' = w := by
  go_enter Tryz.func139, Tryz.ntmps139
  go_wp2_with fail
  refine (mul64_12 w).mono ?_
  rintro e w1 ⟨rfl, rfl⟩
  go_wp2_with fail
  go_ret2
  exact ⟨rfl, rfl⟩

/-- Copying types from a row into a row that lies whole in a block. -/
theorem run_copyT (w : World) (g o dLen dCap : Nat) (a : Addr) (sLen sCap : Nat) (cur : Array Value) (t : TypeId) (cs : List Value)
    (hg : w.heap[g]? = some (.cells cur t (0, 0))) (hn : cs.length = Nat.min sLen dLen * 2)
    (hsrc : ∀ j v, cs[j]? = some v → w.cell? (a.add j) = some v) (hfit : o + cs.length ≤ cur.size) (h1 : ∀ v ∈ cs, v.oneCell' = true) :
    (Builtin.copy_ #[56, 56] 3 #[.slice (some ⟨g, o, none⟩) dLen dCap, .slice (some a) sLen sCap]).run Tryz.prog w =
      .ok (goInt (Nat.min sLen dLen)) (w.setRow g (cur.toList.take o ++ cs ++ cur.toList.drop (o + cs.length)).toArray) := by
  have hl := run_loadCells_list (P := Tryz.prog) w a cs hsrc
  have hst := run_storeCells_at Tryz.prog g o t cs 0 cur w hg (by simpa using hfit) h1
  obtain ⟨i, hq, hi, -, -⟩ := info_parts okTy.info
  have hq' : Tryz.prog.info? 55 = some i := hq
  have hi' : i.size = 2 := by have := okTy.info; rw [hq] at this; simp at this; first | exact this.1 | exact this.2.1 | simpa using this
  simp [Builtin.copy_, run_underlying Tryz.underlying56, Builtin.lenOf, Builtin.firstCells, sizeOf, typeInfo, hq', hi', ← hn, hl, hst]

theorem ev_copy {o : Oper} {a : Act} {w : World} (t : TypeId) (x y : Nat) (v u v' : Value) (w' : World) (ho : o.op = Op.call { callee := Callee.builtin Builtin.copy, args := #[.tmp x, .tmp y], argTypes := #[t, t] }) (hx : a.eval (.tmp x) = v) (hy : a.eval (.tmp y) = u) (hr : (Builtin.copy_ #[t, t] o.type #[v, u]).run Tryz.prog w = .ok v' w') : (execOp a.eval o).run Tryz.prog w = .ok (.value v') w' := by
  unfold execOp; simp [ho, hx, hy, resolve, invoke, builtin, hr, Result.andThen]

theorem lt_01 {a b : Nat} (ha : a = 0) (hb : b = 1) : a < b := by omega

theorem Fr.setRow {a w : World} {G : Nat} (h : Fr no a w) (hG : a.heap.size = G) (cs : Array Value) : Fr no a (w.setRow G cs) :=
  ⟨h.1, h.2, by rw [setRow_size]; exact h.3, fun k hk hs => by rw [setRow_other w G k _ (fun e => by omega)]; exact h.4 k hk hs, fun x hx => by rw [frozen_setRow]; exact h.5 x hx⟩

set_option maxRecDepth 100000 in
set_option maxHeartbeats 4000000 in
theorem repeat2 (w : World) (g : Nat) (t : Ty) (hg : w.heap[g]? = some (.cells #[.int .i64 t.k, .string t.c] 55 (0, 0))) :
    Calls Tryz.prog 124 #[.slice (some ⟨g, 0, none⟩) 1 1, .int .i64 2] w fun e w' => ∃ v, e = .returned v ∧ OwnG elTy w' v [t, t] ∧ Fr no w w' := by
  have hmd : (madeCells #[.int .i64 0, .string ⟨#[]⟩] (2 * 2)) = #[Value.int .i64 0, .string ⟨#[]⟩, .int .i64 0, .string ⟨#[]⟩] := by kernel_rfl
  have hmk := made_ty w 2 (.inr rfl)
  rw [hmd] at hmk
  have hmk2 : (Instr.makeSlice 56 (.int .i64 2) (.int .i64 2)).run Tryz.prog w = .ok (.slice (some ⟨w.heap.size, 0, none⟩) 2 2) (w.alloc (.cells #[.int .i64 0, .string ⟨#[]⟩, .int .i64 0, .string ⟨#[]⟩] 55)) := hmk
  clear hmk
  generalize hW : w.alloc (.cells #[.int .i64 0, .string ⟨#[]⟩, .int .i64 0, .string ⟨#[]⟩] 55) = W at *
  have G0 : Fr no w W := by rw [← hW]; exact (Fr.refl no w).alloc _ _
  have E0 : W.heap[w.heap.size]? = some (.cells #[.int .i64 0, .string ⟨#[]⟩, .int .i64 0, .string ⟨#[]⟩] 55 (0, 0)) := by rw [← hW]; exact heap_alloc_new w _
  have hgW := G0.heap hg (fun f => f)
  obtain ⟨x0, x1⟩ := bx2 hgW
  have hge := Nat.le_refl w.heap.size
  generalize hG : w.heap.size = G at *
  have HC1 : (Builtin.copy_ #[56, 56] 3 #[.slice (some ⟨G, 0, none⟩) 2 2, .slice (some ⟨g, 0, none⟩) 1 1]).run Tryz.prog W = .ok (.int .i64 1) (W.setRow G #[.int .i64 t.k, .string t.c, .int .i64 0, .string ⟨#[]⟩]) := run_copyT W G 0 2 2 ⟨g, 0, none⟩ 1 1 _ 55 [.int .i64 t.k, .string t.c] E0 rfl (by
    intro j v hj
    rcases j with _ | _ | j
    · simp at hj; subst hj; exact x0
    · simp at hj; subst hj; exact x1
    · simp at hj) (by simp) (by intro v hv; simp at hv; rcases hv with rfl | rfl <;> rfl)
  have E1 : (W.setRow G #[.int .i64 t.k, .string t.c, .int .i64 0, .string ⟨#[]⟩]).heap[G]? = some (.cells #[.int .i64 t.k, .string t.c, .int .i64 0, .string ⟨#[]⟩] 55 (0, 0)) := setRow_heap W G _ _ 55 (0, 0) E0
  have F1 : Fr no w (W.setRow G #[.int .i64 t.k, .string t.c, .int .i64 0, .string ⟨#[]⟩]) := G0.setRow hG _
  generalize hW1 : W.setRow G #[.int .i64 t.k, .string t.c, .int .i64 0, .string ⟨#[]⟩] = W1 at *
  have E1d : W1.drew.heap[G]? = _ := E1
  obtain ⟨z0, z1, z2, z3⟩ := box4 E1d
  have HC2 : Hid ((Builtin.copy_ #[56, 56] 3 #[.slice (some ⟨G, 2, none⟩) 1 1, .slice (some ⟨G, 0, none⟩) 1 2]).run Tryz.prog W1.drew = .ok (.int .i64 1) (W1.drew.setRow G #[.int .i64 t.k, .string t.c, .int .i64 t.k, .string t.c])) := (run_copyT W1.drew G 2 1 1 ⟨G, 0, none⟩ 1 2 _ 55 [.int .i64 t.k, .string t.c] E1d rfl (by
    intro j v hj
    rcases j with _ | _ | j
    · simp at hj; subst hj; exact z0
    · simp at hj; subst hj; exact z1
    · simp at hj) (by simp) (by intro v hv; simp at hv; rcases hv with rfl | rfl <;> rfl))
  have E2 : (W1.drew.setRow G #[.int .i64 t.k, .string t.c, .int .i64 t.k, .string t.c]).heap[G]? = some (.cells #[.int .i64 t.k, .string t.c, .int .i64 t.k, .string t.c] 55 (0, 0)) := setRow_heap W1.drew G _ _ 55 (0, 0) E1d
  have F2 : Fr no w (W1.drew.setRow G #[.int .i64 t.k, .string t.c, .int .i64 t.k, .string t.c]) := F1.drew.setRow hG _
  generalize hW2 : W1.drew.setRow G #[.int .i64 t.k, .string t.c, .int .i64 t.k, .string t.c] = W2 at *
  have HO : Hid (OwnG elTy W2 (.slice (some ⟨G, 0, none⟩) 2 2) [t, t] ∧ Fr no w W2) := ⟨own_heap okTy [t, t] E2 (by rfl) (show 2 ≤ maxLen by decide), F2⟩
  have HS0 : Hid (Fr no w W1.drew) := F1.drew
  have HS1 : Hid (Fr no w W2) := F2
  clear E1d z0 z1 z2 z3 E2 F2 F1 E1 hmd hW E0 hgW x0 x1 hW1 hW2
  go_enter Tryz.func124, Tryz.ntmps124
  go_wp2_with fail
  refine (mul_12 w).mono ?_
  rintro e w1 ⟨rfl, rfl⟩
  go_wp2_with fail
  go_loopw [8] (fun i wr => (i = .int .i64 1 ∧ wr = W1) ∨ (i = .int .i64 2 ∧ wr = W2)) (fun i _ => 2 - (intOf i).toNat)
  case atStart => exact .inl ⟨rfl, rfl⟩
  case round =>
    rcases hrel with ⟨rfl, rfl⟩ | ⟨rfl, rfl⟩
    · go_wp2_with fail
      refine late_begin (S := fun w' => Fr no w1 w') (g := 9) (by kernel_rfl) ?_
      refine late_pure 0 (.int .i64 1) rfl (by kernel_rfl) (by kernel_rfl) (by kernel_rfl) (fun _ _ _ h => h) (by decide) (yields rfl (fun _ _ => ev_move 8 _ rfl (by kernel_rfl))) (fun _ => HS0.out) ?_
      refine late_pure 1 (.slice (some ⟨G, 0, none⟩) 2 2) rfl (by kernel_rfl) (by kernel_rfl) (by kernel_rfl) (fun _ _ _ h => h) (by decide) (yields rfl (fun _ _ => ev_move 7 _ rfl (by kernel_rfl))) (fun _ => HS0.out) ?_
      refine late_pure 2 (.int .i64 1) rfl (by kernel_rfl) (by kernel_rfl) (by kernel_rfl) (fun _ _ _ h => h) (by decide) (yields rfl (fun _ _ => ev_move 8 _ rfl (by kernel_rfl))) (fun _ => HS0.out) ?_
      refine late_pure 3 (.slice (some ⟨G, 2, none⟩) 1 1) rfl (by kernel_rfl) (by kernel_rfl) (by kernel_rfl) (fun _ _ _ h => h) (by decide) (yields rfl (fun _ _ => by kernel_rfl)) (fun _ => HS0.out) ?_
      refine late_pure 4 (.slice (some ⟨G, 0, none⟩) 2 2) rfl (by kernel_rfl) (by kernel_rfl) (by kernel_rfl) (fun _ _ _ h => h) (by decide) (yields rfl (fun _ _ => ev_move 7 _ rfl (by kernel_rfl))) (fun _ => HS0.out) ?_
      refine late_pure 5 (.int .i64 1) rfl (by kernel_rfl) (by kernel_rfl) (by kernel_rfl) (fun _ _ _ h => h) (by decide) (yields rfl (fun _ _ => ev_move 8 _ rfl (by kernel_rfl))) (fun _ => HS0.out) ?_
      refine late_pure 6 (.slice (some ⟨G, 0, none⟩) 1 2) rfl (by kernel_rfl) (by kernel_rfl) (by kernel_rfl) (fun _ _ _ h => h) (by decide) (yields rfl (fun _ _ => by kernel_rfl)) (fun _ => HS0.out) ?_
      refine late_all [7] (by kernel_rfl) (by simp) (fun jj hjj => ?_)
      obtain rfl := one_of hjj
      refine late_op rfl rfl (ev_copy 56 41 44 _ _ _ _ rfl (by kernel_rfl) (by kernel_rfl) HC2.out) ?_
      refine ⟨fun _ => HS1.out, ?_⟩
      refine late_pure 8 (.int .i64 2) rfl (by kernel_rfl) (by kernel_rfl) (by kernel_rfl) (fun _ _ _ h => h) (by decide) (yields rfl (fun _ _ => by kernel_rfl)) (fun _ => HS1.out) ?_
      refine late_all [9] (by kernel_rfl) (by simp) (fun jj hjj => ?_)
      obtain rfl := one_of hjj
      refine late_op rfl rfl (ev_assign 46 (.int .i64 2) rfl (by kernel_rfl)) ?_
      refine ⟨(fun h => Bool.noConfusion (show true = false from h)), ?_⟩
      refine late_done (by kernel_rfl) ?_
      go_wp2_with fail
      refine ⟨⟨.int .i64 2, .int .i64 1, .slice (some ⟨G, 0, none⟩) 2 2, .int .i64 2, .bool true, .int .i64 1, .slice (some ⟨G, 0, none⟩) 2 2, .int .i64 1, .slice (some ⟨G, 2, none⟩) 1 1, .slice (some ⟨G, 0, none⟩) 2 2, .int .i64 1, .slice (some ⟨G, 0, none⟩) 1 2, .int .i64 1, .int .i64 2, .inr ⟨rfl, trivial⟩, by kernel_rfl⟩, ?_⟩
      exact lt_01 (by kernel_rfl) (by kernel_rfl)
    · go_wp2_with fail
      go_ret
      exact ⟨_, rfl, HO.out⟩
end Go.Proofs.YtpfkigoffllieaaGreatDoor

/- The rule of each instruction that the statements have. -/
namespace Go.Proofs.YtpfkigoffllieaaGreatDoor
open Go.ChangeShapes Go.WideShapes Go.ChangeAt Go.RowKit
open H (ix NewV)

structure RuAt (w : World) (s : Ru) (x : Rl) : Prop where
  nv : s.nv = x.nv
  tk : SlG elTy w (.slice s.tk.a s.tk.n s.tk.c) x.tk
  pt : SlG elTy w (.slice s.pt.a s.pt.n s.pt.c) x.pt
  pc : s.pt.a = none → s.pt.c = 0
theorem RuAt.keep {w w' : World} {s : Ru} {x : Rl} (h : RuAt w s x) (hf : Fr no w w') : RuAt w' s x := ⟨h.nv, h.tk.kept hf, h.pt.kept hf, h.pc⟩

theorem results_106 (w : World) (r : Nat) (x0 x1 x2 : Value) (h : w.heap[r]? = some (.cells #[x0, x1, x2] 166 (0, 0))) (tmps : Array Value) (h2 : tmps.getD 2 undef = .pointer (some ⟨r, 0, none⟩)) :
    (results Tryz.f123 tmps).run Tryz.prog w = .ok (.agg #[x0, x1, x2]) w := by
  have hl : (loadVar 166 ⟨r, 0, none⟩).run Tryz.prog w = .ok (.agg #[x0, x1, x2]) w := run_loadVar_row (P := Tryz.prog) w r 166 166 #[x0, x1, x2] (0, 0) _ h Tryz.underlying166 rfl (by kernel_rfl)
  have h2' : tmps[2]?.getD undef = .pointer (some ⟨r, 0, none⟩) := by simpa using h2
  simp [results, asAddr, h2', hl]
theorem chain3 {w : World} {p : Nat} {t : TypeId} {c0 c1 c2 : Value} (h : w.heap[p]? = some (.cells #[c0, c1, c2] t (0, 0))) (x0 x1 x2 : Value) : (((w.setCell ⟨p, 0, none⟩ x0).setCell ⟨p, 1, none⟩ x1).setCell ⟨p, 2, none⟩ x2).heap[p]? = some (.cells #[x0, x1, x2] t (0, 0)) := by
  have h0 : (w.setCell ⟨p, 0, none⟩ x0).heap[p]? = some (.cells #[x0, c1, c2] t (0, 0)) := set_at h
  have h1 : ((w.setCell ⟨p, 0, none⟩ x0).setCell ⟨p, 1, none⟩ x1).heap[p]? = some (.cells #[x0, x1, c2] t (0, 0)) := set_at h0
  exact set_at h1
theorem frc3 (w : World) (p : Nat) (x0 x1 x2 : Value) : Fr (fun k => k = p) w (((w.setCell ⟨p, 0, none⟩ x0).setCell ⟨p, 1, none⟩ x1).setCell ⟨p, 2, none⟩ x2) :=
  (((Fr.refl (fun k => k = p) w).setCell (p := ⟨p, 0, none⟩) (fun _ => rfl) x0).setCell (p := ⟨p, 1, none⟩) (fun _ => rfl) x1).setCell (p := ⟨p, 2, none⟩) (fun _ => rfl) x2
theorem ints_sl (w : World) (l : List Int) (cs : Array Value) (hc : cs = (H.cg elJ l).toArray) (h : l.length ≤ 2) : H.SlG elJ (w.alloc (.cells cs 3)) (.slice (some ⟨w.heap.size, 0, none⟩) l.length l.length) l := (H.own_lit (K := elJ) w l cs hc (Nat.le_trans h (by decide))).sl
/-- A rule laid at p, behind the store into its own block. -/
theorem ru_fin {w w2 W : World} {ru : Ru} {x : Rl} (hw : Fr no w w2) (h : RuAt w2 ru x) (hF : Fr (fun k => k = w.heap.size) w2 W) (h1 : ∀ ad, ru.tk.a = some ad → ad.block ≠ w.heap.size) (h2 : ∀ ad, ru.pt.a = some ad → ad.block ≠ w.heap.size) : RuAt W ru x ∧ Fr no w W := by
  have kp : ∀ {a : Option Addr} {n c : Nat} {l : List Ty}, SlG elTy w2 (.slice a n c) l → (∀ ad, a = some ad → ad.block ≠ w.heap.size) → SlG elTy W (.slice a n c) l := fun {a n c l} hs hne => by
    obtain ⟨ad, cap, e, h1, h2, hit⟩ := hs
    refine ⟨ad, cap, e, h1, h2, fun i y hi => ?_⟩
    simp only [Value.slice.injEq] at e
    obtain ⟨b, off, rfl, hc⟩ := hit i y hi
    exact ⟨b, off, rfl, fun j u hj => hF.cell (hc j u hj) (show b ≠ w.heap.size from hne ⟨b, off, none⟩ e.1)⟩
  exact ⟨⟨h.nv, kp h.tk h1, kp h.pt h2, h.pc⟩, hw.new hF (fun i hi e => by omega)⟩

/-- Its lists are new. -/
def NewR (w : World) (ru : Ru) : Prop := (∀ ad, ru.tk.a = some ad → w.heap.size ≤ ad.block) ∧ (∀ ad, ru.pt.a = some ad → w.heap.size ≤ ad.block)

def ruleP (op : Int) : Rl :=
  if op = 1 then ⟨false, [], [kT 1]⟩ else if op = 2 then ⟨false, [], [kT 2]⟩ else if op = 3 then ⟨false, [], [kT 5]⟩ else if op = 5 ∨ op = 6 then ⟨false, [kT 6], []⟩
  else if op = 8 ∨ op = 10 ∨ op = 14 then ⟨false, [kT 1, kT 1], [kT 1]⟩ else if op = 16 ∨ op = 18 then ⟨false, [kT 2, kT 2], [kT 2]⟩ else if op = 20 then ⟨false, [kT 2, kT 2], [kT 1]⟩
  else if op = 23 ∨ op = 46 then ⟨false, [kT 1], []⟩ else if op = 47 then ⟨false, [kT 2], []⟩ else ⟨false, [], []⟩
def plainOps : List Int := [0, 1, 2, 3, 4, 5, 6, 8, 10, 14, 16, 18, 20, 22, 23, 38, 39, 46, 47]

set_option maxRecDepth 100000 in
set_option maxHeartbeats 4000000 in
theorem plain_1 (w : World) : Calls Tryz.prog 123 #[.int .i64 1] w fun e w' => ∃ ru, e = .returned (ruV ru) ∧ RuAt w' ru (ruleP 1) ∧ NewR w ru ∧ Fr no w w' := by
  generalize hW0 : w.alloc (.cells #[.bool false, .slice none 0 0, .slice none 0 0] 166) = W0
  have G0 : Fr no w W0 := by rw [← hW0]; exact (Fr.refl no w).alloc _ _
  have E0 : W0.heap[w.heap.size]? = some (.cells #[.bool false, .slice none 0 0, .slice none 0 0] 166 (0, 0)) := by rw [← hW0]; exact heap_alloc_new w _
  have hs0 : w.heap.size < W0.heap.size := lt_of_heap E0
  have HG : Hid (Fr no w W0 ∧ w.heap.size < W0.heap.size) := ⟨G0, hs0⟩
  generalize hA1 : W0.alloc (.cells #[.int .i64 1] 3) = A1
  have GA1 : Fr no W0 A1 := by rw [← hA1]; exact (Fr.refl no W0).alloc _ _
  have OF1 := of_any A1 _ [1] (by rw [← hA1]; exact ints_sl W0 [1] _ rfl (by decide)) (by decide) (by decide)
  go_enter Tryz.func123, Tryz.ntmps123
  go_wp2_with fail
  refine OF1.mono ?_
  rintro e w1 ⟨rfl, sl1, f1⟩
  have FF1 : Fr no W0 w1 := GA1.new f1 (fun _ _ f => f)
  have hz1 := FF1.size
  have hg1 := GA1.size
  have Z7 := FF1.heap E0 (fun f => f)
  obtain ⟨v0, v1, v2⟩ := bx3 Z7
  have fzz := fun o => frozen_at (o := o) Z7
  have HC : Hid _ := And.intro (chain3 Z7 (.bool false) (.slice none 0 0) (.slice (some ⟨A1.heap.size, 0, none⟩) 1 1)) (ru_fin (w := w) (ru := ⟨false, ⟨none, 0, 0⟩, ⟨some ⟨A1.heap.size, 0, none⟩, 1, 1⟩⟩) (x := ruleP 1) (HG.out.1.new FF1 (fun _ _ f => f)) ⟨rfl, SlG.nil elTy _, sl1, fun e => by simp at e⟩ (frc3 w1 w.heap.size (.bool false) (.slice none 0 0) (.slice (some ⟨A1.heap.size, 0, none⟩) 1 1)) (fun ad e => by simp at e) (fun ad e => by simp only [Option.some.injEq] at e; subst e; have := HG.out.2; simp only; omega))
  clear Z7 E0
  go_wp2_with fail
  exact bodyPost_ret (results_106 _ w.heap.size _ _ _ HC.out.1 _ rfl) rfl ⟨⟨false, ⟨none, 0, 0⟩, ⟨some ⟨A1.heap.size, 0, none⟩, 1, 1⟩⟩, rfl, HC.out.2.1, ⟨fun ad e => by simp at e, fun ad e => by simp only [Option.some.injEq] at e; subst e; have := HG.out.2; simp only; omega⟩, HC.out.2.2⟩

set_option maxRecDepth 100000 in
set_option maxHeartbeats 4000000 in
theorem plain_2 (w : World) : Calls Tryz.prog 123 #[.int .i64 2] w fun e w' => ∃ ru, e = .returned (ruV ru) ∧ RuAt w' ru (ruleP 2) ∧ NewR w ru ∧ Fr no w w' := by
  generalize hW0 : w.alloc (.cells #[.bool false, .slice none 0 0, .slice none 0 0] 166) = W0
  have G0 : Fr no w W0 := by rw [← hW0]; exact (Fr.refl no w).alloc _ _
  have E0 : W0.heap[w.heap.size]? = some (.cells #[.bool false, .slice none 0 0, .slice none 0 0] 166 (0, 0)) := by rw [← hW0]; exact heap_alloc_new w _
  have hs0 : w.heap.size < W0.heap.size := lt_of_heap E0
  have HG : Hid (Fr no w W0 ∧ w.heap.size < W0.heap.size) := ⟨G0, hs0⟩
  generalize hA1 : W0.alloc (.cells #[.int .i64 2] 3) = A1
  have GA1 : Fr no W0 A1 := by rw [← hA1]; exact (Fr.refl no W0).alloc _ _
  have OF1 := of_any A1 _ [2] (by rw [← hA1]; exact ints_sl W0 [2] _ rfl (by decide)) (by decide) (by decide)
  go_enter Tryz.func123, Tryz.ntmps123
  go_wp2_with fail
  refine OF1.mono ?_
  rintro e w1 ⟨rfl, sl1, f1⟩
  have FF1 : Fr no W0 w1 := GA1.new f1 (fun _ _ f => f)
  have hz1 := FF1.size
  have hg1 := GA1.size
  have Z7 := FF1.heap E0 (fun f => f)
  obtain ⟨v0, v1, v2⟩ := bx3 Z7
  have fzz := fun o => frozen_at (o := o) Z7
  have HC : Hid _ := And.intro (chain3 Z7 (.bool false) (.slice none 0 0) (.slice (some ⟨A1.heap.size, 0, none⟩) 1 1)) (ru_fin (w := w) (ru := ⟨false, ⟨none, 0, 0⟩, ⟨some ⟨A1.heap.size, 0, none⟩, 1, 1⟩⟩) (x := ruleP 2) (HG.out.1.new FF1 (fun _ _ f => f)) ⟨rfl, SlG.nil elTy _, sl1, fun e => by simp at e⟩ (frc3 w1 w.heap.size (.bool false) (.slice none 0 0) (.slice (some ⟨A1.heap.size, 0, none⟩) 1 1)) (fun ad e => by simp at e) (fun ad e => by simp only [Option.some.injEq] at e; subst e; have := HG.out.2; simp only; omega))
  clear Z7 E0
  go_wp2_with fail
  exact bodyPost_ret (results_106 _ w.heap.size _ _ _ HC.out.1 _ rfl) rfl ⟨⟨false, ⟨none, 0, 0⟩, ⟨some ⟨A1.heap.size, 0, none⟩, 1, 1⟩⟩, rfl, HC.out.2.1, ⟨fun ad e => by simp at e, fun ad e => by simp only [Option.some.injEq] at e; subst e; have := HG.out.2; simp only; omega⟩, HC.out.2.2⟩

set_option maxRecDepth 100000 in
set_option maxHeartbeats 4000000 in
theorem plain_3 (w : World) : Calls Tryz.prog 123 #[.int .i64 3] w fun e w' => ∃ ru, e = .returned (ruV ru) ∧ RuAt w' ru (ruleP 3) ∧ NewR w ru ∧ Fr no w w' := by
  generalize hW0 : w.alloc (.cells #[.bool false, .slice none 0 0, .slice none 0 0] 166) = W0
  have G0 : Fr no w W0 := by rw [← hW0]; exact (Fr.refl no w).alloc _ _
  have E0 : W0.heap[w.heap.size]? = some (.cells #[.bool false, .slice none 0 0, .slice none 0 0] 166 (0, 0)) := by rw [← hW0]; exact heap_alloc_new w _
  have hs0 : w.heap.size < W0.heap.size := lt_of_heap E0
  have HG : Hid (Fr no w W0 ∧ w.heap.size < W0.heap.size) := ⟨G0, hs0⟩
  generalize hA1 : W0.alloc (.cells #[.int .i64 5] 3) = A1
  have GA1 : Fr no W0 A1 := by rw [← hA1]; exact (Fr.refl no W0).alloc _ _
  have OF1 := of_any A1 _ [5] (by rw [← hA1]; exact ints_sl W0 [5] _ rfl (by decide)) (by decide) (by decide)
  go_enter Tryz.func123, Tryz.ntmps123
  go_wp2_with fail
  refine OF1.mono ?_
  rintro e w1 ⟨rfl, sl1, f1⟩
  have FF1 : Fr no W0 w1 := GA1.new f1 (fun _ _ f => f)
  have hz1 := FF1.size
  have hg1 := GA1.size
  have Z7 := FF1.heap E0 (fun f => f)
  obtain ⟨v0, v1, v2⟩ := bx3 Z7
  have fzz := fun o => frozen_at (o := o) Z7
  have HC : Hid _ := And.intro (chain3 Z7 (.bool false) (.slice none 0 0) (.slice (some ⟨A1.heap.size, 0, none⟩) 1 1)) (ru_fin (w := w) (ru := ⟨false, ⟨none, 0, 0⟩, ⟨some ⟨A1.heap.size, 0, none⟩, 1, 1⟩⟩) (x := ruleP 3) (HG.out.1.new FF1 (fun _ _ f => f)) ⟨rfl, SlG.nil elTy _, sl1, fun e => by simp at e⟩ (frc3 w1 w.heap.size (.bool false) (.slice none 0 0) (.slice (some ⟨A1.heap.size, 0, none⟩) 1 1)) (fun ad e => by simp at e) (fun ad e => by simp only [Option.some.injEq] at e; subst e; have := HG.out.2; simp only; omega))
  clear Z7 E0
  go_wp2_with fail
  exact bodyPost_ret (results_106 _ w.heap.size _ _ _ HC.out.1 _ rfl) rfl ⟨⟨false, ⟨none, 0, 0⟩, ⟨some ⟨A1.heap.size, 0, none⟩, 1, 1⟩⟩, rfl, HC.out.2.1, ⟨fun ad e => by simp at e, fun ad e => by simp only [Option.some.injEq] at e; subst e; have := HG.out.2; simp only; omega⟩, HC.out.2.2⟩

set_option maxRecDepth 100000 in
set_option maxHeartbeats 4000000 in
theorem plain_5 (w : World) : Calls Tryz.prog 123 #[.int .i64 5] w fun e w' => ∃ ru, e = .returned (ruV ru) ∧ RuAt w' ru (ruleP 5) ∧ NewR w ru ∧ Fr no w w' := by
  generalize hW0 : w.alloc (.cells #[.bool false, .slice none 0 0, .slice none 0 0] 166) = W0
  have G0 : Fr no w W0 := by rw [← hW0]; exact (Fr.refl no w).alloc _ _
  have E0 : W0.heap[w.heap.size]? = some (.cells #[.bool false, .slice none 0 0, .slice none 0 0] 166 (0, 0)) := by rw [← hW0]; exact heap_alloc_new w _
  have hs0 : w.heap.size < W0.heap.size := lt_of_heap E0
  have HG : Hid (Fr no w W0 ∧ w.heap.size < W0.heap.size) := ⟨G0, hs0⟩
  generalize hA1 : W0.alloc (.cells #[.int .i64 6] 3) = A1
  have GA1 : Fr no W0 A1 := by rw [← hA1]; exact (Fr.refl no W0).alloc _ _
  have OF1 := of_any A1 _ [6] (by rw [← hA1]; exact ints_sl W0 [6] _ rfl (by decide)) (by decide) (by decide)
  go_enter Tryz.func123, Tryz.ntmps123
  go_wp2_with fail
  refine OF1.mono ?_
  rintro e w1 ⟨rfl, sl1, f1⟩
  have FF1 : Fr no W0 w1 := GA1.new f1 (fun _ _ f => f)
  have hz1 := FF1.size
  have hg1 := GA1.size
  have Z7 := FF1.heap E0 (fun f => f)
  obtain ⟨v0, v1, v2⟩ := bx3 Z7
  have fzz := fun o => frozen_at (o := o) Z7
  have HC : Hid _ := And.intro (chain3 Z7 (.bool false) (.slice (some ⟨A1.heap.size, 0, none⟩) 1 1) (.slice none 0 0)) (ru_fin (w := w) (ru := ⟨false, ⟨some ⟨A1.heap.size, 0, none⟩, 1, 1⟩, ⟨none, 0, 0⟩⟩) (x := ruleP 5) (HG.out.1.new FF1 (fun _ _ f => f)) ⟨rfl, sl1, SlG.nil elTy _, fun _ => rfl⟩ (frc3 w1 w.heap.size (.bool false) (.slice (some ⟨A1.heap.size, 0, none⟩) 1 1) (.slice none 0 0)) (fun ad e => by simp only [Option.some.injEq] at e; subst e; have := HG.out.2; simp only; omega) (fun ad e => by simp at e))
  clear Z7 E0
  go_wp2_with fail
  exact bodyPost_ret (results_106 _ w.heap.size _ _ _ HC.out.1 _ rfl) rfl ⟨⟨false, ⟨some ⟨A1.heap.size, 0, none⟩, 1, 1⟩, ⟨none, 0, 0⟩⟩, rfl, HC.out.2.1, ⟨fun ad e => by simp only [Option.some.injEq] at e; subst e; have := HG.out.2; simp only; omega, fun ad e => by simp at e⟩, HC.out.2.2⟩

set_option maxRecDepth 100000 in
set_option maxHeartbeats 4000000 in
theorem plain_6 (w : World) : Calls Tryz.prog 123 #[.int .i64 6] w fun e w' => ∃ ru, e = .returned (ruV ru) ∧ RuAt w' ru (ruleP 6) ∧ NewR w ru ∧ Fr no w w' := by
  generalize hW0 : w.alloc (.cells #[.bool false, .slice none 0 0, .slice none 0 0] 166) = W0
  have G0 : Fr no w W0 := by rw [← hW0]; exact (Fr.refl no w).alloc _ _
  have E0 : W0.heap[w.heap.size]? = some (.cells #[.bool false, .slice none 0 0, .slice none 0 0] 166 (0, 0)) := by rw [← hW0]; exact heap_alloc_new w _
  have hs0 : w.heap.size < W0.heap.size := lt_of_heap E0
  have HG : Hid (Fr no w W0 ∧ w.heap.size < W0.heap.size) := ⟨G0, hs0⟩
  generalize hA1 : W0.alloc (.cells #[.int .i64 6] 3) = A1
  have GA1 : Fr no W0 A1 := by rw [← hA1]; exact (Fr.refl no W0).alloc _ _
  have OF1 := of_any A1 _ [6] (by rw [← hA1]; exact ints_sl W0 [6] _ rfl (by decide)) (by decide) (by decide)
  go_enter Tryz.func123, Tryz.ntmps123
  go_wp2_with fail
  refine OF1.mono ?_
  rintro e w1 ⟨rfl, sl1, f1⟩
  have FF1 : Fr no W0 w1 := GA1.new f1 (fun _ _ f => f)
  have hz1 := FF1.size
  have hg1 := GA1.size
  have Z7 := FF1.heap E0 (fun f => f)
  obtain ⟨v0, v1, v2⟩ := bx3 Z7
  have fzz := fun o => frozen_at (o := o) Z7
  have HC : Hid _ := And.intro (chain3 Z7 (.bool false) (.slice (some ⟨A1.heap.size, 0, none⟩) 1 1) (.slice none 0 0)) (ru_fin (w := w) (ru := ⟨false, ⟨some ⟨A1.heap.size, 0, none⟩, 1, 1⟩, ⟨none, 0, 0⟩⟩) (x := ruleP 6) (HG.out.1.new FF1 (fun _ _ f => f)) ⟨rfl, sl1, SlG.nil elTy _, fun _ => rfl⟩ (frc3 w1 w.heap.size (.bool false) (.slice (some ⟨A1.heap.size, 0, none⟩) 1 1) (.slice none 0 0)) (fun ad e => by simp only [Option.some.injEq] at e; subst e; have := HG.out.2; simp only; omega) (fun ad e => by simp at e))
  clear Z7 E0
  go_wp2_with fail
  exact bodyPost_ret (results_106 _ w.heap.size _ _ _ HC.out.1 _ rfl) rfl ⟨⟨false, ⟨some ⟨A1.heap.size, 0, none⟩, 1, 1⟩, ⟨none, 0, 0⟩⟩, rfl, HC.out.2.1, ⟨fun ad e => by simp only [Option.some.injEq] at e; subst e; have := HG.out.2; simp only; omega, fun ad e => by simp at e⟩, HC.out.2.2⟩

set_option maxRecDepth 100000 in
set_option maxHeartbeats 4000000 in
theorem plain_8 (w : World) : Calls Tryz.prog 123 #[.int .i64 8] w fun e w' => ∃ ru, e = .returned (ruV ru) ∧ RuAt w' ru (ruleP 8) ∧ NewR w ru ∧ Fr no w w' := by
  generalize hW0 : w.alloc (.cells #[.bool false, .slice none 0 0, .slice none 0 0] 166) = W0
  have G0 : Fr no w W0 := by rw [← hW0]; exact (Fr.refl no w).alloc _ _
  have E0 : W0.heap[w.heap.size]? = some (.cells #[.bool false, .slice none 0 0, .slice none 0 0] 166 (0, 0)) := by rw [← hW0]; exact heap_alloc_new w _
  have hs0 : w.heap.size < W0.heap.size := lt_of_heap E0
  have HG : Hid (Fr no w W0 ∧ w.heap.size < W0.heap.size) := ⟨G0, hs0⟩
  generalize hA1 : W0.alloc (.cells #[.int .i64 1, .int .i64 1] 3) = A1
  have GA1 : Fr no W0 A1 := by rw [← hA1]; exact (Fr.refl no W0).alloc _ _
  have OF1 := of_any A1 _ [1, 1] (by rw [← hA1]; exact ints_sl W0 [1, 1] _ rfl (by decide)) (by decide) (by decide)
  go_enter Tryz.func123, Tryz.ntmps123
  go_wp2_with fail
  refine OF1.mono ?_
  rintro e w1 ⟨rfl, sl1, f1⟩
  have FF1 : Fr no W0 w1 := GA1.new f1 (fun _ _ f => f)
  have hz1 := FF1.size
  have hg1 := GA1.size
  generalize hA2 : w1.alloc (.cells #[.int .i64 1] 3) = A2
  have GA2 : Fr no w1 A2 := by rw [← hA2]; exact (Fr.refl no w1).alloc _ _
  have OF2 := of_any A2 _ [1] (by rw [← hA2]; exact ints_sl w1 [1] _ rfl (by decide)) (by decide) (by decide)
  go_wp2_with fail
  refine OF2.mono ?_
  rintro e w2 ⟨rfl, sl2, f2⟩
  have FF2 : Fr no w1 w2 := GA2.new f2 (fun _ _ f => f)
  have hz2 := FF2.size
  have hg2 := GA2.size
  have sl1b := sl1.kept FF2
  have FFA := FF1.new FF2 (fun _ _ f => f)
  have Z7 := FFA.heap E0 (fun f => f)
  obtain ⟨v0, v1, v2⟩ := bx3 Z7
  have fzz := fun o => frozen_at (o := o) Z7
  have HC : Hid _ := And.intro (chain3 Z7 (.bool false) (.slice (some ⟨A1.heap.size, 0, none⟩) 2 2) (.slice (some ⟨A2.heap.size, 0, none⟩) 1 1)) (ru_fin (w := w) (ru := ⟨false, ⟨some ⟨A1.heap.size, 0, none⟩, 2, 2⟩, ⟨some ⟨A2.heap.size, 0, none⟩, 1, 1⟩⟩) (x := ruleP 8) (HG.out.1.new FFA (fun _ _ f => f)) ⟨rfl, sl1b, sl2, fun e => by simp at e⟩ (frc3 w2 w.heap.size (.bool false) (.slice (some ⟨A1.heap.size, 0, none⟩) 2 2) (.slice (some ⟨A2.heap.size, 0, none⟩) 1 1)) (fun ad e => by simp only [Option.some.injEq] at e; subst e; have := HG.out.2; simp only; omega) (fun ad e => by simp only [Option.some.injEq] at e; subst e; have := HG.out.2; simp only; omega))
  clear Z7 E0
  go_wp2_with fail
  exact bodyPost_ret (results_106 _ w.heap.size _ _ _ HC.out.1 _ rfl) rfl ⟨⟨false, ⟨some ⟨A1.heap.size, 0, none⟩, 2, 2⟩, ⟨some ⟨A2.heap.size, 0, none⟩, 1, 1⟩⟩, rfl, HC.out.2.1, ⟨fun ad e => by simp only [Option.some.injEq] at e; subst e; have := HG.out.2; simp only; omega, fun ad e => by simp only [Option.some.injEq] at e; subst e; have := HG.out.2; simp only; omega⟩, HC.out.2.2⟩

set_option maxRecDepth 100000 in
set_option maxHeartbeats 4000000 in
theorem plain_10 (w : World) : Calls Tryz.prog 123 #[.int .i64 10] w fun e w' => ∃ ru, e = .returned (ruV ru) ∧ RuAt w' ru (ruleP 10) ∧ NewR w ru ∧ Fr no w w' := by
  generalize hW0 : w.alloc (.cells #[.bool false, .slice none 0 0, .slice none 0 0] 166) = W0
  have G0 : Fr no w W0 := by rw [← hW0]; exact (Fr.refl no w).alloc _ _
  have E0 : W0.heap[w.heap.size]? = some (.cells #[.bool false, .slice none 0 0, .slice none 0 0] 166 (0, 0)) := by rw [← hW0]; exact heap_alloc_new w _
  have hs0 : w.heap.size < W0.heap.size := lt_of_heap E0
  have HG : Hid (Fr no w W0 ∧ w.heap.size < W0.heap.size) := ⟨G0, hs0⟩
  generalize hA1 : W0.alloc (.cells #[.int .i64 1, .int .i64 1] 3) = A1
  have GA1 : Fr no W0 A1 := by rw [← hA1]; exact (Fr.refl no W0).alloc _ _
  have OF1 := of_any A1 _ [1, 1] (by rw [← hA1]; exact ints_sl W0 [1, 1] _ rfl (by decide)) (by decide) (by decide)
  go_enter Tryz.func123, Tryz.ntmps123
  go_wp2_with fail
  refine OF1.mono ?_
  rintro e w1 ⟨rfl, sl1, f1⟩
  have FF1 : Fr no W0 w1 := GA1.new f1 (fun _ _ f => f)
  have hz1 := FF1.size
  have hg1 := GA1.size
  generalize hA2 : w1.alloc (.cells #[.int .i64 1] 3) = A2
  have GA2 : Fr no w1 A2 := by rw [← hA2]; exact (Fr.refl no w1).alloc _ _
  have OF2 := of_any A2 _ [1] (by rw [← hA2]; exact ints_sl w1 [1] _ rfl (by decide)) (by decide) (by decide)
  go_wp2_with fail
  refine OF2.mono ?_
  rintro e w2 ⟨rfl, sl2, f2⟩
  have FF2 : Fr no w1 w2 := GA2.new f2 (fun _ _ f => f)
  have hz2 := FF2.size
  have hg2 := GA2.size
  have sl1b := sl1.kept FF2
  have FFA := FF1.new FF2 (fun _ _ f => f)
  have Z7 := FFA.heap E0 (fun f => f)
  obtain ⟨v0, v1, v2⟩ := bx3 Z7
  have fzz := fun o => frozen_at (o := o) Z7
  have HC : Hid _ := And.intro (chain3 Z7 (.bool false) (.slice (some ⟨A1.heap.size, 0, none⟩) 2 2) (.slice (some ⟨A2.heap.size, 0, none⟩) 1 1)) (ru_fin (w := w) (ru := ⟨false, ⟨some ⟨A1.heap.size, 0, none⟩, 2, 2⟩, ⟨some ⟨A2.heap.size, 0, none⟩, 1, 1⟩⟩) (x := ruleP 10) (HG.out.1.new FFA (fun _ _ f => f)) ⟨rfl, sl1b, sl2, fun e => by simp at e⟩ (frc3 w2 w.heap.size (.bool false) (.slice (some ⟨A1.heap.size, 0, none⟩) 2 2) (.slice (some ⟨A2.heap.size, 0, none⟩) 1 1)) (fun ad e => by simp only [Option.some.injEq] at e; subst e; have := HG.out.2; simp only; omega) (fun ad e => by simp only [Option.some.injEq] at e; subst e; have := HG.out.2; simp only; omega))
  clear Z7 E0
  go_wp2_with fail
  exact bodyPost_ret (results_106 _ w.heap.size _ _ _ HC.out.1 _ rfl) rfl ⟨⟨false, ⟨some ⟨A1.heap.size, 0, none⟩, 2, 2⟩, ⟨some ⟨A2.heap.size, 0, none⟩, 1, 1⟩⟩, rfl, HC.out.2.1, ⟨fun ad e => by simp only [Option.some.injEq] at e; subst e; have := HG.out.2; simp only; omega, fun ad e => by simp only [Option.some.injEq] at e; subst e; have := HG.out.2; simp only; omega⟩, HC.out.2.2⟩

set_option maxRecDepth 100000 in
set_option maxHeartbeats 4000000 in
theorem plain_14 (w : World) : Calls Tryz.prog 123 #[.int .i64 14] w fun e w' => ∃ ru, e = .returned (ruV ru) ∧ RuAt w' ru (ruleP 14) ∧ NewR w ru ∧ Fr no w w' := by
  generalize hW0 : w.alloc (.cells #[.bool false, .slice none 0 0, .slice none 0 0] 166) = W0
  have G0 : Fr no w W0 := by rw [← hW0]; exact (Fr.refl no w).alloc _ _
  have E0 : W0.heap[w.heap.size]? = some (.cells #[.bool false, .slice none 0 0, .slice none 0 0] 166 (0, 0)) := by rw [← hW0]; exact heap_alloc_new w _
  have hs0 : w.heap.size < W0.heap.size := lt_of_heap E0
  have HG : Hid (Fr no w W0 ∧ w.heap.size < W0.heap.size) := ⟨G0, hs0⟩
  generalize hA1 : W0.alloc (.cells #[.int .i64 1, .int .i64 1] 3) = A1
  have GA1 : Fr no W0 A1 := by rw [← hA1]; exact (Fr.refl no W0).alloc _ _
  have OF1 := of_any A1 _ [1, 1] (by rw [← hA1]; exact ints_sl W0 [1, 1] _ rfl (by decide)) (by decide) (by decide)
  go_enter Tryz.func123, Tryz.ntmps123
  go_wp2_with fail
  refine OF1.mono ?_
  rintro e w1 ⟨rfl, sl1, f1⟩
  have FF1 : Fr no W0 w1 := GA1.new f1 (fun _ _ f => f)
  have hz1 := FF1.size
  have hg1 := GA1.size
  generalize hA2 : w1.alloc (.cells #[.int .i64 1] 3) = A2
  have GA2 : Fr no w1 A2 := by rw [← hA2]; exact (Fr.refl no w1).alloc _ _
  have OF2 := of_any A2 _ [1] (by rw [← hA2]; exact ints_sl w1 [1] _ rfl (by decide)) (by decide) (by decide)
  go_wp2_with fail
  refine OF2.mono ?_
  rintro e w2 ⟨rfl, sl2, f2⟩
  have FF2 : Fr no w1 w2 := GA2.new f2 (fun _ _ f => f)
  have hz2 := FF2.size
  have hg2 := GA2.size
  have sl1b := sl1.kept FF2
  have FFA := FF1.new FF2 (fun _ _ f => f)
  have Z7 := FFA.heap E0 (fun f => f)
  obtain ⟨v0, v1, v2⟩ := bx3 Z7
  have fzz := fun o => frozen_at (o := o) Z7
  have HC : Hid _ := And.intro (chain3 Z7 (.bool false) (.slice (some ⟨A1.heap.size, 0, none⟩) 2 2) (.slice (some ⟨A2.heap.size, 0, none⟩) 1 1)) (ru_fin (w := w) (ru := ⟨false, ⟨some ⟨A1.heap.size, 0, none⟩, 2, 2⟩, ⟨some ⟨A2.heap.size, 0, none⟩, 1, 1⟩⟩) (x := ruleP 14) (HG.out.1.new FFA (fun _ _ f => f)) ⟨rfl, sl1b, sl2, fun e => by simp at e⟩ (frc3 w2 w.heap.size (.bool false) (.slice (some ⟨A1.heap.size, 0, none⟩) 2 2) (.slice (some ⟨A2.heap.size, 0, none⟩) 1 1)) (fun ad e => by simp only [Option.some.injEq] at e; subst e; have := HG.out.2; simp only; omega) (fun ad e => by simp only [Option.some.injEq] at e; subst e; have := HG.out.2; simp only; omega))
  clear Z7 E0
  go_wp2_with fail
  exact bodyPost_ret (results_106 _ w.heap.size _ _ _ HC.out.1 _ rfl) rfl ⟨⟨false, ⟨some ⟨A1.heap.size, 0, none⟩, 2, 2⟩, ⟨some ⟨A2.heap.size, 0, none⟩, 1, 1⟩⟩, rfl, HC.out.2.1, ⟨fun ad e => by simp only [Option.some.injEq] at e; subst e; have := HG.out.2; simp only; omega, fun ad e => by simp only [Option.some.injEq] at e; subst e; have := HG.out.2; simp only; omega⟩, HC.out.2.2⟩

set_option maxRecDepth 100000 in
set_option maxHeartbeats 4000000 in
theorem plain_16 (w : World) : Calls Tryz.prog 123 #[.int .i64 16] w fun e w' => ∃ ru, e = .returned (ruV ru) ∧ RuAt w' ru (ruleP 16) ∧ NewR w ru ∧ Fr no w w' := by
  generalize hW0 : w.alloc (.cells #[.bool false, .slice none 0 0, .slice none 0 0] 166) = W0
  have G0 : Fr no w W0 := by rw [← hW0]; exact (Fr.refl no w).alloc _ _
  have E0 : W0.heap[w.heap.size]? = some (.cells #[.bool false, .slice none 0 0, .slice none 0 0] 166 (0, 0)) := by rw [← hW0]; exact heap_alloc_new w _
  have hs0 : w.heap.size < W0.heap.size := lt_of_heap E0
  have HG : Hid (Fr no w W0 ∧ w.heap.size < W0.heap.size) := ⟨G0, hs0⟩
  generalize hA1 : W0.alloc (.cells #[.int .i64 2, .int .i64 2] 3) = A1
  have GA1 : Fr no W0 A1 := by rw [← hA1]; exact (Fr.refl no W0).alloc _ _
  have OF1 := of_any A1 _ [2, 2] (by rw [← hA1]; exact ints_sl W0 [2, 2] _ rfl (by decide)) (by decide) (by decide)
  go_enter Tryz.func123, Tryz.ntmps123
  go_wp2_with fail
  refine OF1.mono ?_
  rintro e w1 ⟨rfl, sl1, f1⟩
  have FF1 : Fr no W0 w1 := GA1.new f1 (fun _ _ f => f)
  have hz1 := FF1.size
  have hg1 := GA1.size
  generalize hA2 : w1.alloc (.cells #[.int .i64 2] 3) = A2
  have GA2 : Fr no w1 A2 := by rw [← hA2]; exact (Fr.refl no w1).alloc _ _
  have OF2 := of_any A2 _ [2] (by rw [← hA2]; exact ints_sl w1 [2] _ rfl (by decide)) (by decide) (by decide)
  go_wp2_with fail
  refine OF2.mono ?_
  rintro e w2 ⟨rfl, sl2, f2⟩
  have FF2 : Fr no w1 w2 := GA2.new f2 (fun _ _ f => f)
  have hz2 := FF2.size
  have hg2 := GA2.size
  have sl1b := sl1.kept FF2
  have FFA := FF1.new FF2 (fun _ _ f => f)
  have Z7 := FFA.heap E0 (fun f => f)
  obtain ⟨v0, v1, v2⟩ := bx3 Z7
  have fzz := fun o => frozen_at (o := o) Z7
  have HC : Hid _ := And.intro (chain3 Z7 (.bool false) (.slice (some ⟨A1.heap.size, 0, none⟩) 2 2) (.slice (some ⟨A2.heap.size, 0, none⟩) 1 1)) (ru_fin (w := w) (ru := ⟨false, ⟨some ⟨A1.heap.size, 0, none⟩, 2, 2⟩, ⟨some ⟨A2.heap.size, 0, none⟩, 1, 1⟩⟩) (x := ruleP 16) (HG.out.1.new FFA (fun _ _ f => f)) ⟨rfl, sl1b, sl2, fun e => by simp at e⟩ (frc3 w2 w.heap.size (.bool false) (.slice (some ⟨A1.heap.size, 0, none⟩) 2 2) (.slice (some ⟨A2.heap.size, 0, none⟩) 1 1)) (fun ad e => by simp only [Option.some.injEq] at e; subst e; have := HG.out.2; simp only; omega) (fun ad e => by simp only [Option.some.injEq] at e; subst e; have := HG.out.2; simp only; omega))
  clear Z7 E0
  go_wp2_with fail
  exact bodyPost_ret (results_106 _ w.heap.size _ _ _ HC.out.1 _ rfl) rfl ⟨⟨false, ⟨some ⟨A1.heap.size, 0, none⟩, 2, 2⟩, ⟨some ⟨A2.heap.size, 0, none⟩, 1, 1⟩⟩, rfl, HC.out.2.1, ⟨fun ad e => by simp only [Option.some.injEq] at e; subst e; have := HG.out.2; simp only; omega, fun ad e => by simp only [Option.some.injEq] at e; subst e; have := HG.out.2; simp only; omega⟩, HC.out.2.2⟩

set_option maxRecDepth 100000 in
set_option maxHeartbeats 4000000 in
theorem plain_18 (w : World) : Calls Tryz.prog 123 #[.int .i64 18] w fun e w' => ∃ ru, e = .returned (ruV ru) ∧ RuAt w' ru (ruleP 18) ∧ NewR w ru ∧ Fr no w w' := by
  generalize hW0 : w.alloc (.cells #[.bool false, .slice none 0 0, .slice none 0 0] 166) = W0
  have G0 : Fr no w W0 := by rw [← hW0]; exact (Fr.refl no w).alloc _ _
  have E0 : W0.heap[w.heap.size]? = some (.cells #[.bool false, .slice none 0 0, .slice none 0 0] 166 (0, 0)) := by rw [← hW0]; exact heap_alloc_new w _
  have hs0 : w.heap.size < W0.heap.size := lt_of_heap E0
  have HG : Hid (Fr no w W0 ∧ w.heap.size < W0.heap.size) := ⟨G0, hs0⟩
  generalize hA1 : W0.alloc (.cells #[.int .i64 2, .int .i64 2] 3) = A1
  have GA1 : Fr no W0 A1 := by rw [← hA1]; exact (Fr.refl no W0).alloc _ _
  have OF1 := of_any A1 _ [2, 2] (by rw [← hA1]; exact ints_sl W0 [2, 2] _ rfl (by decide)) (by decide) (by decide)
  go_enter Tryz.func123, Tryz.ntmps123
  go_wp2_with fail
  refine OF1.mono ?_
  rintro e w1 ⟨rfl, sl1, f1⟩
  have FF1 : Fr no W0 w1 := GA1.new f1 (fun _ _ f => f)
  have hz1 := FF1.size
  have hg1 := GA1.size
  generalize hA2 : w1.alloc (.cells #[.int .i64 2] 3) = A2
  have GA2 : Fr no w1 A2 := by rw [← hA2]; exact (Fr.refl no w1).alloc _ _
  have OF2 := of_any A2 _ [2] (by rw [← hA2]; exact ints_sl w1 [2] _ rfl (by decide)) (by decide) (by decide)
  go_wp2_with fail
  refine OF2.mono ?_
  rintro e w2 ⟨rfl, sl2, f2⟩
  have FF2 : Fr no w1 w2 := GA2.new f2 (fun _ _ f => f)
  have hz2 := FF2.size
  have hg2 := GA2.size
  have sl1b := sl1.kept FF2
  have FFA := FF1.new FF2 (fun _ _ f => f)
  have Z7 := FFA.heap E0 (fun f => f)
  obtain ⟨v0, v1, v2⟩ := bx3 Z7
  have fzz := fun o => frozen_at (o := o) Z7
  have HC : Hid _ := And.intro (chain3 Z7 (.bool false) (.slice (some ⟨A1.heap.size, 0, none⟩) 2 2) (.slice (some ⟨A2.heap.size, 0, none⟩) 1 1)) (ru_fin (w := w) (ru := ⟨false, ⟨some ⟨A1.heap.size, 0, none⟩, 2, 2⟩, ⟨some ⟨A2.heap.size, 0, none⟩, 1, 1⟩⟩) (x := ruleP 18) (HG.out.1.new FFA (fun _ _ f => f)) ⟨rfl, sl1b, sl2, fun e => by simp at e⟩ (frc3 w2 w.heap.size (.bool false) (.slice (some ⟨A1.heap.size, 0, none⟩) 2 2) (.slice (some ⟨A2.heap.size, 0, none⟩) 1 1)) (fun ad e => by simp only [Option.some.injEq] at e; subst e; have := HG.out.2; simp only; omega) (fun ad e => by simp only [Option.some.injEq] at e; subst e; have := HG.out.2; simp only; omega))
  clear Z7 E0
  go_wp2_with fail
  exact bodyPost_ret (results_106 _ w.heap.size _ _ _ HC.out.1 _ rfl) rfl ⟨⟨false, ⟨some ⟨A1.heap.size, 0, none⟩, 2, 2⟩, ⟨some ⟨A2.heap.size, 0, none⟩, 1, 1⟩⟩, rfl, HC.out.2.1, ⟨fun ad e => by simp only [Option.some.injEq] at e; subst e; have := HG.out.2; simp only; omega, fun ad e => by simp only [Option.some.injEq] at e; subst e; have := HG.out.2; simp only; omega⟩, HC.out.2.2⟩

set_option maxRecDepth 100000 in
set_option maxHeartbeats 4000000 in
theorem plain_20 (w : World) : Calls Tryz.prog 123 #[.int .i64 20] w fun e w' => ∃ ru, e = .returned (ruV ru) ∧ RuAt w' ru (ruleP 20) ∧ NewR w ru ∧ Fr no w w' := by
  generalize hW0 : w.alloc (.cells #[.bool false, .slice none 0 0, .slice none 0 0] 166) = W0
  have G0 : Fr no w W0 := by rw [← hW0]; exact (Fr.refl no w).alloc _ _
  have E0 : W0.heap[w.heap.size]? = some (.cells #[.bool false, .slice none 0 0, .slice none 0 0] 166 (0, 0)) := by rw [← hW0]; exact heap_alloc_new w _
  have hs0 : w.heap.size < W0.heap.size := lt_of_heap E0
  have HG : Hid (Fr no w W0 ∧ w.heap.size < W0.heap.size) := ⟨G0, hs0⟩
  generalize hA1 : W0.alloc (.cells #[.int .i64 2, .int .i64 2] 3) = A1
  have GA1 : Fr no W0 A1 := by rw [← hA1]; exact (Fr.refl no W0).alloc _ _
  have OF1 := of_any A1 _ [2, 2] (by rw [← hA1]; exact ints_sl W0 [2, 2] _ rfl (by decide)) (by decide) (by decide)
  go_enter Tryz.func123, Tryz.ntmps123
  go_wp2_with fail
  refine OF1.mono ?_
  rintro e w1 ⟨rfl, sl1, f1⟩
  have FF1 : Fr no W0 w1 := GA1.new f1 (fun _ _ f => f)
  have hz1 := FF1.size
  have hg1 := GA1.size
  generalize hA2 : w1.alloc (.cells #[.int .i64 1] 3) = A2
  have GA2 : Fr no w1 A2 := by rw [← hA2]; exact (Fr.refl no w1).alloc _ _
  have OF2 := of_any A2 _ [1] (by rw [← hA2]; exact ints_sl w1 [1] _ rfl (by decide)) (by decide) (by decide)
  go_wp2_with fail
  refine OF2.mono ?_
  rintro e w2 ⟨rfl, sl2, f2⟩
  have FF2 : Fr no w1 w2 := GA2.new f2 (fun _ _ f => f)
  have hz2 := FF2.size
  have hg2 := GA2.size
  have sl1b := sl1.kept FF2
  have FFA := FF1.new FF2 (fun _ _ f => f)
  have Z7 := FFA.heap E0 (fun f => f)
  obtain ⟨v0, v1, v2⟩ := bx3 Z7
  have fzz := fun o => frozen_at (o := o) Z7
  have HC : Hid _ := And.intro (chain3 Z7 (.bool false) (.slice (some ⟨A1.heap.size, 0, none⟩) 2 2) (.slice (some ⟨A2.heap.size, 0, none⟩) 1 1)) (ru_fin (w := w) (ru := ⟨false, ⟨some ⟨A1.heap.size, 0, none⟩, 2, 2⟩, ⟨some ⟨A2.heap.size, 0, none⟩, 1, 1⟩⟩) (x := ruleP 20) (HG.out.1.new FFA (fun _ _ f => f)) ⟨rfl, sl1b, sl2, fun e => by simp at e⟩ (frc3 w2 w.heap.size (.bool false) (.slice (some ⟨A1.heap.size, 0, none⟩) 2 2) (.slice (some ⟨A2.heap.size, 0, none⟩) 1 1)) (fun ad e => by simp only [Option.some.injEq] at e; subst e; have := HG.out.2; simp only; omega) (fun ad e => by simp only [Option.some.injEq] at e; subst e; have := HG.out.2; simp only; omega))
  clear Z7 E0
  go_wp2_with fail
  exact bodyPost_ret (results_106 _ w.heap.size _ _ _ HC.out.1 _ rfl) rfl ⟨⟨false, ⟨some ⟨A1.heap.size, 0, none⟩, 2, 2⟩, ⟨some ⟨A2.heap.size, 0, none⟩, 1, 1⟩⟩, rfl, HC.out.2.1, ⟨fun ad e => by simp only [Option.some.injEq] at e; subst e; have := HG.out.2; simp only; omega, fun ad e => by simp only [Option.some.injEq] at e; subst e; have := HG.out.2; simp only; omega⟩, HC.out.2.2⟩

set_option maxRecDepth 100000 in
set_option maxHeartbeats 4000000 in
theorem plain_23 (w : World) : Calls Tryz.prog 123 #[.int .i64 23] w fun e w' => ∃ ru, e = .returned (ruV ru) ∧ RuAt w' ru (ruleP 23) ∧ NewR w ru ∧ Fr no w w' := by
  generalize hW0 : w.alloc (.cells #[.bool false, .slice none 0 0, .slice none 0 0] 166) = W0
  have G0 : Fr no w W0 := by rw [← hW0]; exact (Fr.refl no w).alloc _ _
  have E0 : W0.heap[w.heap.size]? = some (.cells #[.bool false, .slice none 0 0, .slice none 0 0] 166 (0, 0)) := by rw [← hW0]; exact heap_alloc_new w _
  have hs0 : w.heap.size < W0.heap.size := lt_of_heap E0
  have HG : Hid (Fr no w W0 ∧ w.heap.size < W0.heap.size) := ⟨G0, hs0⟩
  generalize hA1 : W0.alloc (.cells #[.int .i64 1] 3) = A1
  have GA1 : Fr no W0 A1 := by rw [← hA1]; exact (Fr.refl no W0).alloc _ _
  have OF1 := of_any A1 _ [1] (by rw [← hA1]; exact ints_sl W0 [1] _ rfl (by decide)) (by decide) (by decide)
  go_enter Tryz.func123, Tryz.ntmps123
  go_wp2_with fail
  refine OF1.mono ?_
  rintro e w1 ⟨rfl, sl1, f1⟩
  have FF1 : Fr no W0 w1 := GA1.new f1 (fun _ _ f => f)
  have hz1 := FF1.size
  have hg1 := GA1.size
  have Z7 := FF1.heap E0 (fun f => f)
  obtain ⟨v0, v1, v2⟩ := bx3 Z7
  have fzz := fun o => frozen_at (o := o) Z7
  have HC : Hid _ := And.intro (chain3 Z7 (.bool false) (.slice (some ⟨A1.heap.size, 0, none⟩) 1 1) (.slice none 0 0)) (ru_fin (w := w) (ru := ⟨false, ⟨some ⟨A1.heap.size, 0, none⟩, 1, 1⟩, ⟨none, 0, 0⟩⟩) (x := ruleP 23) (HG.out.1.new FF1 (fun _ _ f => f)) ⟨rfl, sl1, SlG.nil elTy _, fun _ => rfl⟩ (frc3 w1 w.heap.size (.bool false) (.slice (some ⟨A1.heap.size, 0, none⟩) 1 1) (.slice none 0 0)) (fun ad e => by simp only [Option.some.injEq] at e; subst e; have := HG.out.2; simp only; omega) (fun ad e => by simp at e))
  clear Z7 E0
  go_wp2_with fail
  exact bodyPost_ret (results_106 _ w.heap.size _ _ _ HC.out.1 _ rfl) rfl ⟨⟨false, ⟨some ⟨A1.heap.size, 0, none⟩, 1, 1⟩, ⟨none, 0, 0⟩⟩, rfl, HC.out.2.1, ⟨fun ad e => by simp only [Option.some.injEq] at e; subst e; have := HG.out.2; simp only; omega, fun ad e => by simp at e⟩, HC.out.2.2⟩

set_option maxRecDepth 100000 in
set_option maxHeartbeats 4000000 in
theorem plain_46 (w : World) : Calls Tryz.prog 123 #[.int .i64 46] w fun e w' => ∃ ru, e = .returned (ruV ru) ∧ RuAt w' ru (ruleP 46) ∧ NewR w ru ∧ Fr no w w' := by
  generalize hW0 : w.alloc (.cells #[.bool false, .slice none 0 0, .slice none 0 0] 166) = W0
  have G0 : Fr no w W0 := by rw [← hW0]; exact (Fr.refl no w).alloc _ _
  have E0 : W0.heap[w.heap.size]? = some (.cells #[.bool false, .slice none 0 0, .slice none 0 0] 166 (0, 0)) := by rw [← hW0]; exact heap_alloc_new w _
  have hs0 : w.heap.size < W0.heap.size := lt_of_heap E0
  have HG : Hid (Fr no w W0 ∧ w.heap.size < W0.heap.size) := ⟨G0, hs0⟩
  generalize hA1 : W0.alloc (.cells #[.int .i64 1] 3) = A1
  have GA1 : Fr no W0 A1 := by rw [← hA1]; exact (Fr.refl no W0).alloc _ _
  have OF1 := of_any A1 _ [1] (by rw [← hA1]; exact ints_sl W0 [1] _ rfl (by decide)) (by decide) (by decide)
  go_enter Tryz.func123, Tryz.ntmps123
  go_wp2_with fail
  refine OF1.mono ?_
  rintro e w1 ⟨rfl, sl1, f1⟩
  have FF1 : Fr no W0 w1 := GA1.new f1 (fun _ _ f => f)
  have hz1 := FF1.size
  have hg1 := GA1.size
  have Z7 := FF1.heap E0 (fun f => f)
  obtain ⟨v0, v1, v2⟩ := bx3 Z7
  have fzz := fun o => frozen_at (o := o) Z7
  have HC : Hid _ := And.intro (chain3 Z7 (.bool false) (.slice (some ⟨A1.heap.size, 0, none⟩) 1 1) (.slice none 0 0)) (ru_fin (w := w) (ru := ⟨false, ⟨some ⟨A1.heap.size, 0, none⟩, 1, 1⟩, ⟨none, 0, 0⟩⟩) (x := ruleP 46) (HG.out.1.new FF1 (fun _ _ f => f)) ⟨rfl, sl1, SlG.nil elTy _, fun _ => rfl⟩ (frc3 w1 w.heap.size (.bool false) (.slice (some ⟨A1.heap.size, 0, none⟩) 1 1) (.slice none 0 0)) (fun ad e => by simp only [Option.some.injEq] at e; subst e; have := HG.out.2; simp only; omega) (fun ad e => by simp at e))
  clear Z7 E0
  go_wp2_with fail
  exact bodyPost_ret (results_106 _ w.heap.size _ _ _ HC.out.1 _ rfl) rfl ⟨⟨false, ⟨some ⟨A1.heap.size, 0, none⟩, 1, 1⟩, ⟨none, 0, 0⟩⟩, rfl, HC.out.2.1, ⟨fun ad e => by simp only [Option.some.injEq] at e; subst e; have := HG.out.2; simp only; omega, fun ad e => by simp at e⟩, HC.out.2.2⟩

set_option maxRecDepth 100000 in
set_option maxHeartbeats 4000000 in
theorem plain_47 (w : World) : Calls Tryz.prog 123 #[.int .i64 47] w fun e w' => ∃ ru, e = .returned (ruV ru) ∧ RuAt w' ru (ruleP 47) ∧ NewR w ru ∧ Fr no w w' := by
  generalize hW0 : w.alloc (.cells #[.bool false, .slice none 0 0, .slice none 0 0] 166) = W0
  have G0 : Fr no w W0 := by rw [← hW0]; exact (Fr.refl no w).alloc _ _
  have E0 : W0.heap[w.heap.size]? = some (.cells #[.bool false, .slice none 0 0, .slice none 0 0] 166 (0, 0)) := by rw [← hW0]; exact heap_alloc_new w _
  have hs0 : w.heap.size < W0.heap.size := lt_of_heap E0
  have HG : Hid (Fr no w W0 ∧ w.heap.size < W0.heap.size) := ⟨G0, hs0⟩
  generalize hA1 : W0.alloc (.cells #[.int .i64 2] 3) = A1
  have GA1 : Fr no W0 A1 := by rw [← hA1]; exact (Fr.refl no W0).alloc _ _
  have OF1 := of_any A1 _ [2] (by rw [← hA1]; exact ints_sl W0 [2] _ rfl (by decide)) (by decide) (by decide)
  go_enter Tryz.func123, Tryz.ntmps123
  go_wp2_with fail
  refine OF1.mono ?_
  rintro e w1 ⟨rfl, sl1, f1⟩
  have FF1 : Fr no W0 w1 := GA1.new f1 (fun _ _ f => f)
  have hz1 := FF1.size
  have hg1 := GA1.size
  have Z7 := FF1.heap E0 (fun f => f)
  obtain ⟨v0, v1, v2⟩ := bx3 Z7
  have fzz := fun o => frozen_at (o := o) Z7
  have HC : Hid _ := And.intro (chain3 Z7 (.bool false) (.slice (some ⟨A1.heap.size, 0, none⟩) 1 1) (.slice none 0 0)) (ru_fin (w := w) (ru := ⟨false, ⟨some ⟨A1.heap.size, 0, none⟩, 1, 1⟩, ⟨none, 0, 0⟩⟩) (x := ruleP 47) (HG.out.1.new FF1 (fun _ _ f => f)) ⟨rfl, sl1, SlG.nil elTy _, fun _ => rfl⟩ (frc3 w1 w.heap.size (.bool false) (.slice (some ⟨A1.heap.size, 0, none⟩) 1 1) (.slice none 0 0)) (fun ad e => by simp only [Option.some.injEq] at e; subst e; have := HG.out.2; simp only; omega) (fun ad e => by simp at e))
  clear Z7 E0
  go_wp2_with fail
  exact bodyPost_ret (results_106 _ w.heap.size _ _ _ HC.out.1 _ rfl) rfl ⟨⟨false, ⟨some ⟨A1.heap.size, 0, none⟩, 1, 1⟩, ⟨none, 0, 0⟩⟩, rfl, HC.out.2.1, ⟨fun ad e => by simp only [Option.some.injEq] at e; subst e; have := HG.out.2; simp only; omega, fun ad e => by simp at e⟩, HC.out.2.2⟩

set_option maxRecDepth 100000 in
set_option maxHeartbeats 4000000 in
theorem plain_0 (w : World) : Calls Tryz.prog 123 #[.int .i64 0] w fun e w' => ∃ ru, e = .returned (ruV ru) ∧ RuAt w' ru (ruleP 0) ∧ NewR w ru ∧ Fr no w w' := by
  generalize hW0 : w.alloc (.cells #[.bool false, .slice none 0 0, .slice none 0 0] 166) = W0
  have G0 : Fr no w W0 := by rw [← hW0]; exact (Fr.refl no w).alloc _ _
  have E0 : W0.heap[w.heap.size]? = some (.cells #[.bool false, .slice none 0 0, .slice none 0 0] 166 (0, 0)) := by rw [← hW0]; exact heap_alloc_new w _
  have hs0 : w.heap.size < W0.heap.size := lt_of_heap E0
  have HG : Hid (Fr no w W0 ∧ w.heap.size < W0.heap.size) := ⟨G0, hs0⟩
  go_enter Tryz.func123, Tryz.ntmps123
  have Z7 := (Fr.refl no W0).heap E0 (fun f => f)
  obtain ⟨v0, v1, v2⟩ := bx3 Z7
  have fzz := fun o => frozen_at (o := o) Z7
  have HC : Hid _ := And.intro (chain3 Z7 (.bool false) (.slice none 0 0) (.slice none 0 0)) (ru_fin (w := w) (ru := ⟨false, ⟨none, 0, 0⟩, ⟨none, 0, 0⟩⟩) (x := ruleP 0) (HG.out.1.new (Fr.refl no W0) (fun _ _ f => f)) ⟨rfl, SlG.nil elTy _, SlG.nil elTy _, fun _ => rfl⟩ (frc3 W0 w.heap.size (.bool false) (.slice none 0 0) (.slice none 0 0)) (fun ad e => by simp at e) (fun ad e => by simp at e))
  clear Z7 E0
  go_wp2_with fail
  exact bodyPost_ret (results_106 _ w.heap.size _ _ _ HC.out.1 _ rfl) rfl ⟨⟨false, ⟨none, 0, 0⟩, ⟨none, 0, 0⟩⟩, rfl, HC.out.2.1, ⟨fun ad e => by simp at e, fun ad e => by simp at e⟩, HC.out.2.2⟩

set_option maxRecDepth 100000 in
set_option maxHeartbeats 4000000 in
theorem plain_4 (w : World) : Calls Tryz.prog 123 #[.int .i64 4] w fun e w' => ∃ ru, e = .returned (ruV ru) ∧ RuAt w' ru (ruleP 4) ∧ NewR w ru ∧ Fr no w w' := by
  generalize hW0 : w.alloc (.cells #[.bool false, .slice none 0 0, .slice none 0 0] 166) = W0
  have G0 : Fr no w W0 := by rw [← hW0]; exact (Fr.refl no w).alloc _ _
  have E0 : W0.heap[w.heap.size]? = some (.cells #[.bool false, .slice none 0 0, .slice none 0 0] 166 (0, 0)) := by rw [← hW0]; exact heap_alloc_new w _
  have hs0 : w.heap.size < W0.heap.size := lt_of_heap E0
  have HG : Hid (Fr no w W0 ∧ w.heap.size < W0.heap.size) := ⟨G0, hs0⟩
  go_enter Tryz.func123, Tryz.ntmps123
  have Z7 := (Fr.refl no W0).heap E0 (fun f => f)
  obtain ⟨v0, v1, v2⟩ := bx3 Z7
  have fzz := fun o => frozen_at (o := o) Z7
  have HC : Hid _ := And.intro (chain3 Z7 (.bool false) (.slice none 0 0) (.slice none 0 0)) (ru_fin (w := w) (ru := ⟨false, ⟨none, 0, 0⟩, ⟨none, 0, 0⟩⟩) (x := ruleP 4) (HG.out.1.new (Fr.refl no W0) (fun _ _ f => f)) ⟨rfl, SlG.nil elTy _, SlG.nil elTy _, fun _ => rfl⟩ (frc3 W0 w.heap.size (.bool false) (.slice none 0 0) (.slice none 0 0)) (fun ad e => by simp at e) (fun ad e => by simp at e))
  clear Z7 E0
  go_wp2_with fail
  exact bodyPost_ret (results_106 _ w.heap.size _ _ _ HC.out.1 _ rfl) rfl ⟨⟨false, ⟨none, 0, 0⟩, ⟨none, 0, 0⟩⟩, rfl, HC.out.2.1, ⟨fun ad e => by simp at e, fun ad e => by simp at e⟩, HC.out.2.2⟩

set_option maxRecDepth 100000 in
set_option maxHeartbeats 4000000 in
theorem plain_22 (w : World) : Calls Tryz.prog 123 #[.int .i64 22] w fun e w' => ∃ ru, e = .returned (ruV ru) ∧ RuAt w' ru (ruleP 22) ∧ NewR w ru ∧ Fr no w w' := by
  generalize hW0 : w.alloc (.cells #[.bool false, .slice none 0 0, .slice none 0 0] 166) = W0
  have G0 : Fr no w W0 := by rw [← hW0]; exact (Fr.refl no w).alloc _ _
  have E0 : W0.heap[w.heap.size]? = some (.cells #[.bool false, .slice none 0 0, .slice none 0 0] 166 (0, 0)) := by rw [← hW0]; exact heap_alloc_new w _
  have hs0 : w.heap.size < W0.heap.size := lt_of_heap E0
  have HG : Hid (Fr no w W0 ∧ w.heap.size < W0.heap.size) := ⟨G0, hs0⟩
  go_enter Tryz.func123, Tryz.ntmps123
  have Z7 := (Fr.refl no W0).heap E0 (fun f => f)
  obtain ⟨v0, v1, v2⟩ := bx3 Z7
  have fzz := fun o => frozen_at (o := o) Z7
  have HC : Hid _ := And.intro (chain3 Z7 (.bool false) (.slice none 0 0) (.slice none 0 0)) (ru_fin (w := w) (ru := ⟨false, ⟨none, 0, 0⟩, ⟨none, 0, 0⟩⟩) (x := ruleP 22) (HG.out.1.new (Fr.refl no W0) (fun _ _ f => f)) ⟨rfl, SlG.nil elTy _, SlG.nil elTy _, fun _ => rfl⟩ (frc3 W0 w.heap.size (.bool false) (.slice none 0 0) (.slice none 0 0)) (fun ad e => by simp at e) (fun ad e => by simp at e))
  clear Z7 E0
  go_wp2_with fail
  exact bodyPost_ret (results_106 _ w.heap.size _ _ _ HC.out.1 _ rfl) rfl ⟨⟨false, ⟨none, 0, 0⟩, ⟨none, 0, 0⟩⟩, rfl, HC.out.2.1, ⟨fun ad e => by simp at e, fun ad e => by simp at e⟩, HC.out.2.2⟩

set_option maxRecDepth 100000 in
set_option maxHeartbeats 4000000 in
theorem plain_38 (w : World) : Calls Tryz.prog 123 #[.int .i64 38] w fun e w' => ∃ ru, e = .returned (ruV ru) ∧ RuAt w' ru (ruleP 38) ∧ NewR w ru ∧ Fr no w w' := by
  generalize hW0 : w.alloc (.cells #[.bool false, .slice none 0 0, .slice none 0 0] 166) = W0
  have G0 : Fr no w W0 := by rw [← hW0]; exact (Fr.refl no w).alloc _ _
  have E0 : W0.heap[w.heap.size]? = some (.cells #[.bool false, .slice none 0 0, .slice none 0 0] 166 (0, 0)) := by rw [← hW0]; exact heap_alloc_new w _
  have hs0 : w.heap.size < W0.heap.size := lt_of_heap E0
  have HG : Hid (Fr no w W0 ∧ w.heap.size < W0.heap.size) := ⟨G0, hs0⟩
  go_enter Tryz.func123, Tryz.ntmps123
  have Z7 := (Fr.refl no W0).heap E0 (fun f => f)
  obtain ⟨v0, v1, v2⟩ := bx3 Z7
  have fzz := fun o => frozen_at (o := o) Z7
  have HC : Hid _ := And.intro (chain3 Z7 (.bool false) (.slice none 0 0) (.slice none 0 0)) (ru_fin (w := w) (ru := ⟨false, ⟨none, 0, 0⟩, ⟨none, 0, 0⟩⟩) (x := ruleP 38) (HG.out.1.new (Fr.refl no W0) (fun _ _ f => f)) ⟨rfl, SlG.nil elTy _, SlG.nil elTy _, fun _ => rfl⟩ (frc3 W0 w.heap.size (.bool false) (.slice none 0 0) (.slice none 0 0)) (fun ad e => by simp at e) (fun ad e => by simp at e))
  clear Z7 E0
  go_wp2_with fail
  exact bodyPost_ret (results_106 _ w.heap.size _ _ _ HC.out.1 _ rfl) rfl ⟨⟨false, ⟨none, 0, 0⟩, ⟨none, 0, 0⟩⟩, rfl, HC.out.2.1, ⟨fun ad e => by simp at e, fun ad e => by simp at e⟩, HC.out.2.2⟩

set_option maxRecDepth 100000 in
set_option maxHeartbeats 4000000 in
theorem plain_39 (w : World) : Calls Tryz.prog 123 #[.int .i64 39] w fun e w' => ∃ ru, e = .returned (ruV ru) ∧ RuAt w' ru (ruleP 39) ∧ NewR w ru ∧ Fr no w w' := by
  generalize hW0 : w.alloc (.cells #[.bool false, .slice none 0 0, .slice none 0 0] 166) = W0
  have G0 : Fr no w W0 := by rw [← hW0]; exact (Fr.refl no w).alloc _ _
  have E0 : W0.heap[w.heap.size]? = some (.cells #[.bool false, .slice none 0 0, .slice none 0 0] 166 (0, 0)) := by rw [← hW0]; exact heap_alloc_new w _
  have hs0 : w.heap.size < W0.heap.size := lt_of_heap E0
  have HG : Hid (Fr no w W0 ∧ w.heap.size < W0.heap.size) := ⟨G0, hs0⟩
  go_enter Tryz.func123, Tryz.ntmps123
  have Z7 := (Fr.refl no W0).heap E0 (fun f => f)
  obtain ⟨v0, v1, v2⟩ := bx3 Z7
  have fzz := fun o => frozen_at (o := o) Z7
  have HC : Hid _ := And.intro (chain3 Z7 (.bool false) (.slice none 0 0) (.slice none 0 0)) (ru_fin (w := w) (ru := ⟨false, ⟨none, 0, 0⟩, ⟨none, 0, 0⟩⟩) (x := ruleP 39) (HG.out.1.new (Fr.refl no W0) (fun _ _ f => f)) ⟨rfl, SlG.nil elTy _, SlG.nil elTy _, fun _ => rfl⟩ (frc3 W0 w.heap.size (.bool false) (.slice none 0 0) (.slice none 0 0)) (fun ad e => by simp at e) (fun ad e => by simp at e))
  clear Z7 E0
  go_wp2_with fail
  exact bodyPost_ret (results_106 _ w.heap.size _ _ _ HC.out.1 _ rfl) rfl ⟨⟨false, ⟨none, 0, 0⟩, ⟨none, 0, 0⟩⟩, rfl, HC.out.2.1, ⟨fun ad e => by simp at e, fun ad e => by simp at e⟩, HC.out.2.2⟩

theorem plain_any (w : World) (op : Int) (h : op ∈ plainOps) : Calls Tryz.prog 123 #[.int .i64 op] w fun e w' => ∃ ru, e = .returned (ruV ru) ∧ RuAt w' ru (ruleP op) ∧ NewR w ru ∧ Fr no w w' := by
  simp only [plainOps, List.mem_cons, List.not_mem_nil, or_false] at h
  rcases h with rfl | rfl | rfl | rfl | rfl | rfl | rfl | rfl | rfl | rfl | rfl | rfl | rfl | rfl | rfl | rfl | rfl | rfl | rfl
  · exact plain_0 w
  · exact plain_1 w
  · exact plain_2 w
  · exact plain_3 w
  · exact plain_4 w
  · exact plain_5 w
  · exact plain_6 w
  · exact plain_8 w
  · exact plain_10 w
  · exact plain_14 w
  · exact plain_16 w
  · exact plain_18 w
  · exact plain_20 w
  · exact plain_22 w
  · exact plain_23 w
  · exact plain_38 w
  · exact plain_39 w
  · exact plain_46 w
  · exact plain_47 w
end Go.Proofs.YtpfkigoffllieaaGreatDoor

/- The rule of an instruction of a method. -/
namespace Go.Proofs.YtpfkigoffllieaaGreatDoor
open Go.ChangeShapes Go.WideShapes Go.ChangeAt Go.RowKit
open H (ix NewV)

theorem results_81 (w : World) (r : Nat) (x0 x1 x2 : Value) (h : w.heap[r]? = some (.cells #[x0, x1, x2] 166 (0, 0))) (tmps : Array Value) (h2 : tmps.getD 8 undef = .pointer (some ⟨r, 0, none⟩)) :
    (results Tryz.f96 tmps).run Tryz.prog w = .ok (.agg #[x0, x1, x2]) w := by
  have hl : (loadVar 166 ⟨r, 0, none⟩).run Tryz.prog w = .ok (.agg #[x0, x1, x2]) w := run_loadVar_row (P := Tryz.prog) w r 166 166 #[x0, x1, x2] (0, 0) _ h Tryz.underlying166 rfl (by kernel_rfl)
  have h2' : tmps[8]?.getD undef = .pointer (some ⟨r, 0, none⟩) := by simpa using h2
  simp [results, asAddr, h2', hl]

theorem plain_ne {op : Int} (h : op ∈ plainOps) : op ≠ 25 ∧ op ≠ 36 ∧ op ≠ 37 ∧ op ≠ 26 ∧ op ≠ 27 ∧ op ≠ 32 ∧ op ≠ 43 ∧ op ≠ 33 ∧ op ≠ 34 := by
  simp only [plainOps, List.mem_cons, List.not_mem_nil, or_false] at h
  omega

set_option maxRecDepth 100000 in
set_option maxHeartbeats 4000000 in
theorem ruleOf_any (w : World) (pv plv : Value) (m : Ms) (op a : Int) (h : op ∈ plainOps ∨ op = 33 ∧ m.ret.k = 0) :
    Calls Tryz.prog 96 #[pv, plv, msV m, .agg #[.int .i64 op, .int .i64 a]] w fun e w' => ∃ ru, e = .returned (ruV ru) ∧ RuAt w' ru (ruleP op) ∧ NewR w ru ∧ Fr no w w' := by
  obtain ⟨mn, ⟨pa, pn, pc⟩, ⟨rk, rc⟩, lo, st, ⟨ca, cn, cc⟩, ⟨ha, hn, hc⟩⟩ := m
  unfold msV
  simp only at h ⊢
  generalize hW1 : w.alloc (.cells #[.string mn, .slice pa pn pc, .int .i64 rk, .string rc, .int .i64 lo, .int .i64 st, .slice ca cn cc, .slice ha hn hc] 64) = W1
  have G1 : Fr no w W1 := by rw [← hW1]; exact (Fr.refl no w).alloc _ _
  have E1 : W1.heap[w.heap.size]? = some (.cells #[.string mn, .slice pa pn pc, .int .i64 rk, .string rc, .int .i64 lo, .int .i64 st, .slice ca cn cc, .slice ha hn hc] 64 (0, 0)) := by rw [← hW1]; exact heap_alloc_new w _
  have s1 : W1.heap.size = w.heap.size + 1 := by rw [← hW1]; exact size_alloc _ _
  generalize hW2 : W1.alloc (.cells #[.int .i64 op, .int .i64 a] 26) = W2
  have G2 : Fr no W1 W2 := by rw [← hW2]; exact (Fr.refl no W1).alloc _ _
  have E2 : W2.heap[w.heap.size + 1]? = some (.cells #[.int .i64 op, .int .i64 a] 26 (0, 0)) := by rw [← hW2, ← s1]; exact heap_alloc_new W1 _
  have s2 : W2.heap.size = w.heap.size + 2 := by rw [← hW2, size_alloc, s1]
  generalize hW3 : W2.alloc (.cells #[.bool false, .slice none 0 0, .slice none 0 0] 166) = W3
  have G3 : Fr no W2 W3 := by rw [← hW3]; exact (Fr.refl no W2).alloc _ _
  have E3 : W3.heap[w.heap.size + 2]? = some (.cells #[.bool false, .slice none 0 0, .slice none 0 0] 166 (0, 0)) := by rw [← hW3, ← s2]; exact heap_alloc_new W2 _
  have z0 := (bx2 (G3.heap E2 (fun f => f))).1
  have r2 := cell_at (o := 2) (G3.heap (G2.heap E1 (fun f => f)) (fun f => f))
  simp only [List.getElem?_toArray, List.getElem?_cons_zero, List.getElem?_cons_succ] at r2
  have FW : Fr no w W3 := (G1.new G2 (fun _ _ f => f)).new G3 (fun _ _ f => f)
  have FW2 : Fr no w W2 := G1.new G2 (fun _ _ f => f)
  rcases h with h | ⟨rfl, rfl⟩
  · obtain ⟨n1, n2, n3, n4, n5, n6, n7, n8, n9⟩ := plain_ne h
    have m1 : (op == 25) = false := by simpa using n1
    have m2 : (op == 36) = false := by simpa using n2
    have m3 : (op == 37) = false := by simpa using n3
    have m4 : (op == 26) = false := by simpa using n4
    have m5 : (op == 27) = false := by simpa using n5
    have m6 : (op == 32) = false := by simpa using n6
    have m7 : (op == 43) = false := by simpa using n7
    have m8 : (op == 33) = false := by simpa using n8
    have m9 : (op == 34) = false := by simpa using n9
    have PL := plain_any W3 op h
    clear h n1 n2 n3 n4 n5 n6 n7 n8 n9 E1 E2 G1 G2 r2
    go_enter Tryz.func96, Tryz.ntmps96
    go_wp2_with fail
    refine PL.mono ?_
    rintro e w4 ⟨⟨nv, ⟨ta, tn, tc⟩, ⟨qa, qn, qc⟩⟩, rfl, hru, hnw, f4⟩
    unfold ruV
    simp only
    have Z7 := f4.heap E3 (fun f => f)
    obtain ⟨v0, v1, v2⟩ := bx3 Z7
    have fzz := fun o => frozen_at (o := o) Z7
    have HC : Hid _ := And.intro (chain3 Z7 (.bool nv) (.slice ta tn tc) (.slice qa qn qc)) (And.intro (frc3 w4 (w.heap.size + 2) (.bool nv) (.slice ta tn tc) (.slice qa qn qc)) hru)
    have HNW : Hid (NewR W3 ⟨nv, ⟨ta, tn, tc⟩, ⟨qa, qn, qc⟩⟩ ∧ W3.heap.size = w.heap.size + 3) := ⟨hnw, by rw [← hW3, size_alloc, s2]⟩
    have HF : Hid (Fr no w W2 ∧ Fr no W2 w4 ∧ W2.heap.size = w.heap.size + 2) := ⟨FW2, G3.new f4 (fun _ _ f => f), s2⟩
    clear Z7 E3 hru f4 PL FW FW2 G3 hnw
    go_wp2_with fail
    refine bodyPost_ret (results_81 _ (w.heap.size + 2) _ _ _ HC.out.1 _ rfl) rfl ?_
    obtain ⟨hN, hz⟩ := HNW.out
    obtain ⟨r1, r2⟩ := ru_fin (w := W2) (HF.out.2.1) HC.out.2.2 (by rw [HF.out.2.2]; exact HC.out.2.1) (fun ad e => by have := hN.1 ad e; have := HF.out.2.2; omega) (fun ad e => by have := hN.2 ad e; have := HF.out.2.2; omega)
    exact ⟨⟨nv, ⟨ta, tn, tc⟩, ⟨qa, qn, qc⟩⟩, rfl, r1, ⟨fun ad e => by have := hN.1 ad e; omega, fun ad e => by have := hN.2 ad e; omega⟩, HF.out.1.new r2 (fun _ _ f => f)⟩
  · obtain ⟨v0, v1, v2⟩ := bx3 E3
    have fzz := fun o => frozen_at (o := o) E3
    have HC : Hid _ := And.intro (chain3 E3 (.bool false) (.slice none 0 0) (.slice none 0 0)) (frc3 W3 (w.heap.size + 2) (.bool false) (.slice none 0 0) (.slice none 0 0))
    have HF : Hid _ := FW
    clear E1 E2 E3 G1 G2 G3 FW FW2
    go_enter Tryz.func96, Tryz.ntmps96
    go_wp2_with fail
    refine bodyPost_ret (results_81 _ (w.heap.size + 2) _ _ _ HC.out.1 _ rfl) rfl ?_
    exact ⟨⟨false, ⟨none, 0, 0⟩, ⟨none, 0, 0⟩⟩, rfl, ⟨rfl, SlG.nil elTy _, SlG.nil elTy _, fun _ => rfl⟩, ⟨fun ad e => by simp at e, fun ad e => by simp at e⟩, HF.out.new HC.out.2 (fun i hi e => by omega)⟩
end Go.Proofs.YtpfkigoffllieaaGreatDoor
