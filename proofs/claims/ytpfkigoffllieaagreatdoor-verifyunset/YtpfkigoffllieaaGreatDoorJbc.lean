/- Method: the states of a class's one method. -/
import Derived.Test.YtpfkigoffllieaaGreatDoorJbb
namespace Go.Proofs.YtpfkigoffllieaaGreatDoor
open Go.ChangeShapes Go.WideShapes Go.ChangeAt Go.RowKit
open H (ky Owns MapOf ix NewV)

theorem OwnG.nil0 {α : Type} {K : El α} {w : World} {a : Option Addr} {n c : Nat} (h : OwnG K w (.slice a n c) []) : n = 0 ∧ (a = none → c = 0) := by
  rcases h.1.2 with ⟨e, _⟩ | ⟨g, cap, cur, e, _⟩
  · simp only [Value.slice.injEq] at e
    exact ⟨e.2.1, fun _ => e.2.2⟩
  · simp only [Value.slice.injEq] at e
    exact ⟨e.2.1, fun h => by rw [h] at e; simp at e⟩

/-- A class of one plain method. -/
structure Plain1 (c : Cl) (m : Mt) (ts : List Ty) : Prop where
  ms : c.methods = [m]
  par : m.params = []
  lo : Low m.lo ts
  hh : m.hands = []
  pos : 0 < m.code.length
  few : m.code.length ≤ 200
  ops : ∀ x ∈ m.code, x.1 ∈ plainOps ∨ x.1 = 33 ∧ m.ret.k = 0

theorem Plain1.states {w : World} {x : Ms} {c : Cl} {m : Mt} {ts : List Ty} (P : Plain1 c m ts) (o : MtOwn w x m) (p hp : Nat) (k : Ks) (hk : k.name = c.name) (hq : w.cell? ⟨p, 0, none⟩ = some (.pointer (some ⟨hp, 0, none⟩))) (tr : Tr w) (fo : FitQ w (.pointer (some ⟨hp, 0, none⟩))) (fuel : Nat) (res : Int × Ps) (hres : settleP m.st m.code (m.code.map fun x => ruleP x.1) fuel 0 (beg c.name ts m.code.length) = some res) :
    Calls Tryz.prog 33 #[.pointer (some ⟨p, 0, none⟩), ksV k, msV x] w fun e w' => ∃ S C c v, e = .returned (.tuple #[v, .int .i64 res.1]) ∧ (res.1 = 0 → v = .slice (some ⟨S, 0, none⟩) m.code.length m.code.length ∧ Fl w' S C c m.code.length res.2.1 res.2.2) ∧ (res.1 ≠ 0 → v = .slice none 0 0) ∧ Fr no w w' := by
  have q1 := (P.par ▸ o.p : OwnG elTy w _ []).nil0
  have q2 := (P.hh ▸ o.h : OwnG elHd w _ []).nil0
  refine statesOf_any w p hp k x m.code hq (o.c.sl okIn) P.pos P.few (fun y hy => by rw [o.ret]; exact P.ops y hy) q1.1 q1.2 ts (o.lo ▸ P.lo) q2.1 tr fo fuel res ?_
  rw [o.st, hk]
  exact hres

set_option maxRecDepth 100000 in
set_option maxHeartbeats 4000000 in
theorem vMethod_any (w : World) (p : Nat) (Cs : List Cl) (A : List Nat) (h : Prg w p Cs A) (hsm : ∀ c ∈ Cs, SmallC c) (s : ByteArray) (hs : s.size ≤ 1099511627776) (i : Nat) (hi : ix s (namesOf Cs) = some i) (m : Mt) (ts : List Ty) (P : Plain1 (clsAt Cs i) m ts) (tr : Tr w) (fo : ∀ hp, w.cell? ⟨p, 0, none⟩ = some (.pointer (some ⟨hp, 0, none⟩)) → FitQ w (.pointer (some ⟨hp, 0, none⟩)))
    (fuel : Nat) (res : Int × Ps) (hres : settleP m.st m.code (m.code.map fun x => ruleP x.1) fuel 0 (beg (clsAt Cs i).name ts m.code.length) = some res) :
    Calls Tryz.prog 18 #[.pointer (some ⟨p, 0, none⟩), .string s, .string m.name] w fun e w' => ∃ S C c v, e = .returned (.tuple #[v, .int .i64 res.1]) ∧ (res.1 = 0 → v = .slice (some ⟨S, 0, none⟩) m.code.length m.code.length ∧ Fl w' S C c m.code.length res.2.1 res.2.2) ∧ (res.1 ≠ 0 → v = .slice none 0 0) ∧ Fr no w w' := by
  obtain ⟨w0, hp, mm, v0, X, ch, h1, -⟩ := h.ex
  have HQ : Hid (w.cell? ⟨p, 0, none⟩ = some (.pointer (some ⟨hp, 0, none⟩))) := cell_at (o := 0) h1.pb
  have G0 : Fr no w (w.alloc (.cells #[.string m.name] 9)) := (Fr.refl no w).alloc _ _
  have c0 : (w.alloc (.cells #[.string m.name] 9)).cell? ⟨w.heap.size, 0, none⟩ = some (.string m.name) := cell_at (o := 0) (heap_alloc_new w _)
  have CL := class_any _ p Cs A (h.keep G0) hsm s hs i hi
  have HP : Hid _ := P
  have HR : Hid _ := hres
  have HT : Hid _ := tr
  have HFO : Hid (FitQ w (.pointer (some ⟨hp, 0, none⟩))) := fo hp HQ.out
  have HG : Hid _ := G0
  have HC : Hid _ := c0
  clear h h1 hi hs hsm P tr hres G0 c0 fo
  generalize hW : w.alloc (.cells #[.string m.name] 9) = W at *
  go_enter Tryz.func18, Tryz.ntmps18
  go_wp2_with fail
  refine CL.mono ?_
  rintro e w2 ⟨⟨kn, ks, ⟨kpa, kpn, kpc⟩, ⟨kfa, kfn, kfc⟩, ⟨kma, kmn, kmc⟩⟩, rfl, oc, F2⟩
  obtain ⟨ls, o1, o2, o3⟩ := oc.m
  rw [HP.out.ms] at o2 o3
  obtain ⟨x, rfl⟩ : ∃ x, ls = [x] := by
    match ls, o2 with
    | [y], _ => exact ⟨y, rfl⟩
  have om := o3 0 x m rfl rfl
  simp only at o1
  obtain ⟨q1, k1, hv1⟩ := o1.form
  simp only [List.length_singleton, Value.slice.injEq] at hv1
  obtain ⟨-, rfl, -⟩ := hv1
  obtain ⟨ad, cap, e, hc1, hc2, hit⟩ := o1.sl okMs
  simp only [Value.slice.injEq] at e
  obtain ⟨rfl, -, rfl⟩ := e
  obtain ⟨mb, mo, rfl, hcx⟩ := hit 0 x rfl
  clear CL
  generalize hW3 : w2.alloc (.cells #[.string kn, .string ks, .slice kpa kpn kpc, .slice kfa kfn kfc, .slice (some ⟨mb, mo, none⟩) 1 kmc] 68) = w3
  have G3 : Fr no w2 w3 := by rw [← hW3]; exact (Fr.refl no w2).alloc _ _
  have E3 : w3.heap[w2.heap.size]? = some (.cells #[.string kn, .string ks, .slice kpa kpn kpc, .slice kfa kfn kfc, .slice (some ⟨mb, mo, none⟩) 1 kmc] 68 (0, 0)) := by rw [← hW3]; exact heap_alloc_new w2 _
  have E34 := cell_at (o := 4) E3
  simp at E34
  have FF := findFirst_any w3 _ x [] ((o1.sl okMs).kept G3) w.heap.size (by rw [om.name]; exact G3.cell (F2.cell HC.out (fun f => f)) (fun f => f))
  have HB : Hid (_ ∧ _ ∧ _ ∧ _ ∧ _ ∧ _) := ⟨oc, om, hcx, G3, E3, F2⟩
  clear oc om hcx G3 E3 F2 o1 o2 o3 hit hc1 hc2
  unfold ksV
  simp only
  go_wp2_with fail
  refine FF.mono ?_
  rintro e w4 ⟨rfl, F4⟩
  clear FF E34
  have HL : Hid (∀ w', Fr no w4 w' → w'.heap[w2.heap.size]? = some (.cells #[.string kn, .string ks, .slice kpa kpn kpc, .slice kfa kfn kfc, .slice (some ⟨mb, mo, none⟩) 1 kmc] 68 (0, 0)) ∧ (∀ j u, ([.string x.name, .slice x.p.a x.p.n x.p.c, .int .i64 x.ret.k, .string x.ret.c, .int .i64 x.lo, .int .i64 x.st, .slice x.c.a x.c.n x.c.c, .slice x.h.a x.h.n x.h.c] : List Value)[j]? = some u → w'.cell? ⟨mb, mo + j, none⟩ = some u)) := fun w' hf => by
    obtain ⟨oc, om, hcx, G3, E3, F2⟩ := HB.out
    refine ⟨hf.heap (F4.heap E3 (fun f => f)) (fun f => f), fun j u hj => ?_⟩
    have := hcx j u hj
    rw [Nat.zero_mul, Nat.add_zero] at this
    exact hf.cell (F4.cell (G3.cell this (fun f => f)) (fun f => f)) (fun f => f)
  have HS5 : Hid (Fr no w4 w4.drew) := (Fr.refl no w4).drew
  have HW4 : Hid (Fr no w w4) := ((HG.out.new HB.out.2.2.2.2.2 (fun _ _ f => f)).new HB.out.2.2.2.1 (fun _ _ f => f)).new F4 (fun _ _ f => f)
  have HCALL : Hid (Calls Tryz.prog 33 #[.pointer (some ⟨p, 0, none⟩), .agg #[.string kn, .string ks, .slice kpa kpn kpc, .slice kfa kfn kfc, .slice (some ⟨mb, mo, none⟩) 1 kmc], .agg #[.string x.name, .slice x.p.a x.p.n x.p.c, .int .i64 x.ret.k, .string x.ret.c, .int .i64 x.lo, .int .i64 x.st, .slice x.c.a x.c.n x.c.c, .slice x.h.a x.h.n x.h.c]] w4.drew fun e w' => ∃ S C c v, e = .returned (.tuple #[v, .int .i64 res.1]) ∧ (res.1 = 0 → v = .slice (some ⟨S, 0, none⟩) m.code.length m.code.length ∧ Fl w' S C c m.code.length res.2.1 res.2.2) ∧ (res.1 ≠ 0 → v = .slice none 0 0) ∧ Fr no w4.drew w') :=
    HP.out.states (((HB.out.2.1.keep HB.out.2.2.2.1).keep F4).keep HS5.out) p hp ⟨kn, ks, ⟨kpa, kpn, kpc⟩, ⟨kfa, kfn, kfc⟩, ⟨some ⟨mb, mo, none⟩, 1, kmc⟩⟩ HB.out.1.name (HW4.out.drew.cell HQ.out (fun f => f)) (Tr.kept HT.out HW4.out.drew) (HFO.out.keep HW4.out.drew) fuel res HR.out
  clear F4
  go_wp2_with fail
  refine late_begin (S := fun w' => Fr no w4 w') (g := 10) (by kernel_rfl) ?_
  refine late_pure 0 (.pointer (some ⟨p, 0, none⟩)) rfl (by kernel_rfl) (by kernel_rfl) (by kernel_rfl) (fun _ _ _ h => h) (by decide) (yields rfl (fun _ _ => ev_move 0 _ rfl (by kernel_rfl))) (fun _ => HS5.out) ?_
  refine late_take 1 (.agg #[.string kn, .string ks, .slice kpa kpn kpc, .slice kfa kfn kfc, .slice (some ⟨mb, mo, none⟩) 1 kmc]) rfl (by kernel_rfl) (by kernel_rfl) (by kernel_rfl) (fun _ _ _ h => h) (waits_of (by kernel_rfl)) (by decide) (by kernel_rfl) (yields rfl (fun w' hS => ev_load 68 8 (.pointer (some ⟨w2.heap.size, 0, none⟩)) _ rfl (by kernel_rfl) (load_row w' w2.heap.size 68 _ _ (HL.out w' hS).1 Tryz.underlying68 rfl (by kernel_rfl)))) (HS5.out) ?_
  refine late_pure 2 (.pointer (some ⟨w2.heap.size, 4, none⟩)) rfl (by kernel_rfl) (by kernel_rfl) (by kernel_rfl) (fun _ _ _ h => h) (by decide) (yields rfl (fun _ _ => ev_field 68 8 4 (.pointer (some ⟨w2.heap.size, 0, none⟩)) _ rfl (by kernel_rfl) (by kernel_rfl))) (fun _ => HS5.out) ?_
  refine late_take 3 (.slice (some ⟨mb, mo, none⟩) 1 kmc) rfl (by kernel_rfl) (by kernel_rfl) (by kernel_rfl) (fun _ _ _ h => h) (waits_of (by kernel_rfl)) (by decide) (by kernel_rfl) (yields rfl (fun w' hS => ev_load 65 25 (.pointer (some ⟨w2.heap.size, 4, none⟩)) _ rfl (by kernel_rfl) (by simp [go_sem, cell_at (o := 4) (HL.out w' hS).1]))) (HS5.out) ?_
  refine late_pure 4 (.int .i64 0) rfl (by kernel_rfl) (by kernel_rfl) (by kernel_rfl) (fun _ _ _ h => h) (by decide) (yields rfl (fun _ _ => ev_move 10 _ rfl (by kernel_rfl))) (fun _ => HS5.out) ?_
  refine late_pure 5 (.pointer (some ⟨mb, mo, none⟩)) rfl (by kernel_rfl) (by kernel_rfl) (by kernel_rfl) (fun _ _ _ h => h) (by decide) (yields rfl (fun _ _ => ev_index 65 26 27 (.slice (some ⟨mb, mo, none⟩) 1 kmc) (.int .i64 0) _ rfl (by kernel_rfl) (by kernel_rfl) (by simp [go_sem]))) (fun _ => HS5.out) ?_
  refine late_take 6 (.agg #[.string x.name, .slice x.p.a x.p.n x.p.c, .int .i64 x.ret.k, .string x.ret.c, .int .i64 x.lo, .int .i64 x.st, .slice x.c.a x.c.n x.c.c, .slice x.h.a x.h.n x.h.c]) rfl (by kernel_rfl) (by kernel_rfl) (by kernel_rfl) (fun _ _ _ h => h) (waits_of (by kernel_rfl)) (by decide) (by kernel_rfl) (yields rfl (fun w' hS => ev_load 64 28 (.pointer (some ⟨mb, mo, none⟩)) _ rfl (by kernel_rfl) (run_loadAt_mid (P := Tryz.prog) w' mb mo 64 [.string x.name, .slice x.p.a x.p.n x.p.c, .int .i64 x.ret.k, .string x.ret.c, .int .i64 x.lo, .int .i64 x.st, .slice x.c.a x.c.n x.c.c, .slice x.h.a x.h.n x.h.c] _ (HL.out w' hS).2 Tryz.underlying64 rfl (by kernel_rfl)))) (HS5.out) ?_
  refine late_all [7] (by kernel_rfl) (by simp) (fun jj hjj => ?_)
  obtain rfl := one_of hjj
  refine late_call (f := 33) rfl rfl (by kernel_rfl) (R := fun v w' => ∃ S C c u, v = .tuple #[u, .int .i64 res.1] ∧ (res.1 = 0 → u = .slice (some ⟨S, 0, none⟩) m.code.length m.code.length ∧ Fl w' S C c m.code.length res.2.1 res.2.2) ∧ (res.1 ≠ 0 → u = .slice none 0 0) ∧ Fr no w4.drew w') (HCALL.out.mono (fun e w' ⟨S, C, c, u, h1, h2⟩ => ⟨_, h1, S, C, c, u, rfl, h2⟩)) (fun v w5 hv => ?_)
  obtain ⟨S, C, c, u, rfl, a1, a2, f5⟩ := hv
  have g5 : Fr no w4 w5 := (Fr.refl no w4).drew.new f5 (fun _ _ f => f)
  refine ⟨fun _ => g5, ?_⟩
  refine late_pure 8 (u) rfl (by kernel_rfl) (by kernel_rfl) (by kernel_rfl) (fun _ _ _ h => h) (by decide) (yields rfl (fun _ _ => by kernel_rfl)) (fun _ => g5) ?_
  refine late_pure 9 (.int .i64 res.1) rfl (by kernel_rfl) (by kernel_rfl) (by kernel_rfl) (fun _ _ _ h => h) (by decide) (yields rfl (fun _ _ => by kernel_rfl)) (fun _ => g5) ?_
  refine late_all [10] (by kernel_rfl) (by simp) (fun jj hjj => ?_)
  obtain rfl := one_of hjj
  refine late_op rfl rfl (ev_assign 31 u rfl (by kernel_rfl)) ?_
  refine ⟨(fun h => Bool.noConfusion (show true = false from h)), ?_⟩
  refine late_all [11] (by kernel_rfl) (by simp) (fun jj hjj => ?_)
  obtain rfl := one_of hjj
  refine late_op rfl rfl (ev_assign 32 (.int .i64 res.1) rfl (by kernel_rfl)) ?_
  refine ⟨(fun h => Bool.noConfusion (show true = false from h)), ?_⟩
  refine late_done (by kernel_rfl) ?_
  go_wp2_with fail
  go_ret2
  exact ⟨S, C, c, u, by kernel_rfl, a1, a2, HW4.out.new g5 (fun _ _ f => f)⟩
end Go.Proofs.YtpfkigoffllieaaGreatDoor

/- All: the first error. -/
namespace Go.Proofs.YtpfkigoffllieaaGreatDoor
open Go.ChangeShapes Go.WideShapes Go.ChangeAt Go.RowKit
open H (ky Owns MapOf ix NewV)

set_option maxRecDepth 100000 in
set_option maxHeartbeats 2000000 in
theorem nameEnd_any (w : World) (p : Nat) (Cs : List Cl) (A : List Nat) (h : Prg w p Cs A) :
    Calls Tryz.prog 34 #[.pointer (some ⟨p, 0, none⟩), .int .i64 (Cs.length : Int)] w fun e w' => e = .returned (.string ⟨#[]⟩) ∧ Fr no w w' := by
  obtain ⟨w0, hp, m, v, X, ch, P, -⟩ := h.ex
  obtain ⟨qv, cv, rfl⟩ := P.form
  have P0 := P
  rw [layAll_len] at P0
  obtain ⟨-, b1, b2⟩ := cells3 P0.pb
  have hi0 : ((Cs.length : Int) < 0) = False := by simp
  clear P P0 h
  generalize hcl2 : Cs.length = n at *
  go_enter Tryz.func34, Tryz.ntmps34
  go_wp2_with fail
  go_ret
  exact ⟨rfl, Fr.refl no w⟩

/-- What All meets at a class: no method, or one whose flow settles. -/
def Meets (c : Cl) (e : Int) : Prop := (c.methods = [] ∧ e = 0) ∨ ∃ m ts fuel res, Plain1 c m ts ∧ settleP m.st m.code (m.code.map fun x => ruleP x.1) fuel 0 (beg c.name ts m.code.length) = some res ∧ e = res.1

set_option maxRecDepth 100000 in
set_option maxHeartbeats 4000000 in
theorem all_any (w : World) (p : Nat) (Cs : List Cl) (A : List Nat) (h : Prg w p Cs A) (hsm : ∀ c ∈ Cs, SmallC c) (tr : Tr w) (fo : ∀ hp, w.cell? ⟨p, 0, none⟩ = some (.pointer (some ⟨hp, 0, none⟩)) → FitQ w (.pointer (some ⟨hp, 0, none⟩))) (err : Nat → Int)
    (hn : ∀ i, i < Cs.length → ix (clsAt Cs i).name (namesOf Cs) = some i ∧ (clsAt Cs i).name.size ≤ 1099511627776 ∧ (clsAt Cs i).name ≠ ⟨#[]⟩) (hm : ∀ i, i < Cs.length → Meets (clsAt Cs i) (err i)) :
    Calls Tryz.prog 19 #[.pointer (some ⟨p, 0, none⟩)] w fun e w' => ∃ z : Int, e = .returned (.int .i64 z) ∧ Fr no w w' ∧ (((∀ i, i < Cs.length → err i = 0) ∧ z = 0) ∨ ∃ i, i < Cs.length ∧ err i ≠ 0 ∧ (∀ j, j < i → err j = 0) ∧ z = err i) := by
  obtain ⟨w0, hp, mm, v0, X, ch, h1, -⟩ := h.ex
  have HQ : Hid (w.cell? ⟨p, 0, none⟩ = some (.pointer (some ⟨hp, 0, none⟩))) := cell_at (o := 0) h1.pb
  have HP : Hid _ := h
  have hfew : Cs.length ≤ 18 := h.few
  have HN : Hid _ := hn
  have HM : Hid _ := hm
  have HT : Hid (∀ w', Fr no w w' → Tr w') := fun w' hf => Tr.kept tr hf
  have HS : Hid _ := hsm
  have HFO : Hid (FitQ w (.pointer (some ⟨hp, 0, none⟩))) := fo hp HQ.out
  clear h h1 hn hm tr hsm fo
  go_enter Tryz.func19, Tryz.ntmps19
  go_wp2_with fail
  go_loopw [3] (fun i wr => ∃ k : Nat, i = .int .i64 (k : Int) ∧ k ≤ Cs.length ∧ Fr no w wr ∧ ∀ j, j < k → err j = 0) (fun i _ => Cs.length - (intOf i).toNat)
  case atStart => exact ⟨0, rfl, Nat.zero_le _, Fr.refl _ _, fun j hj => absurd hj (Nat.not_lt_zero _)⟩
  case round =>
    obtain ⟨k, rfl, hk, fr, he⟩ := hrel
    have HE : Hid _ := he
    have HF : Hid _ := fr
    clear he
    by_cases hlt : k < Cs.length
    · have N1 := name_any wr p Cs A (HP.out.keep fr) k hlt
      have hne : ((clsAt Cs k).name.toList == []) = false := by
        have h3 := (HN.out k hlt).2.2
        cases hl : (clsAt Cs k).name.toList with
        | nil => exact absurd hl (emp_ne _ h3)
        | cons a l => rfl
      obtain ⟨n1, n2, n3⟩ := HN.out k hlt
      clear fr
      go_wp2_with fail
      refine N1.mono ?_
      rintro e w2 ⟨rfl, f2⟩
      have F2 : Fr no w w2 := HF.out.new f2 (fun _ _ f => f)
      have N2 := name_any w2 p Cs A (HP.out.keep F2) k hlt
      clear N1 f2
      go_wp2_with fail
      refine N2.mono ?_
      rintro e w3 ⟨rfl, f3⟩
      have F3 : Fr no w w3 := F2.new f3 (fun _ _ f => f)
      have CL := class_any w3 p Cs A (HP.out.keep F3) HS.out (clsAt Cs k).name n2 k n1
      clear N2 f3 F2 n1 n2 n3 hne
      go_wp2_with fail
      refine CL.mono ?_
      rintro e w4 ⟨⟨kn, ks, ⟨kpa, kpn, kpc⟩, ⟨kfa, kfn, kfc⟩, ⟨kma, kmn, kmc⟩⟩, rfl, oc, f4⟩
      have F4 : Fr no w w4 := F3.new f4 (fun _ _ f => f)
      generalize hW5 : w4.alloc (.cells #[.string kn, .string ks, .slice kpa kpn kpc, .slice kfa kfn kfc, .slice kma kmn kmc] 68) = w5
      have G5 : Fr no w4 w5 := by rw [← hW5]; exact (Fr.refl no w4).alloc _ _
      have E5 : w5.heap[w4.heap.size]? = some (.cells #[.string kn, .string ks, .slice kpa kpn kpc, .slice kfa kfn kfc, .slice kma kmn kmc] 68 (0, 0)) := by rw [← hW5]; exact heap_alloc_new w4 _
      have F5 : Fr no w w5 := F4.new G5 (fun _ _ f => f)
      have oc5 := oc.keep G5
      have E54 := cell_at (o := 4) E5
      simp at E54
      obtain ⟨ls, o1, o2, o3⟩ := oc5.m
      clear CL f4 F3 oc G5
      unfold ksV
      simp only at o1 ⊢
      rcases HM.out k hlt with ⟨hm0, he0⟩ | ⟨m, ts, fuel, res, P, hres, her⟩
      · rw [hm0] at o2
        obtain rfl : ls = [] := List.eq_nil_of_length_eq_zero o2
        obtain rfl := o1.nil0.1
        have HZ : Hid (_ ∧ _) := ⟨F5, he0⟩
        clear o1 o2 o3 oc5 E5 F5 F4 he0 hm0
        go_wp2_with fail
        go_loopw [27] (fun i wr => i = .int .i64 0 ∧ wr = w5) (fun _ _ => 0)
        case atStart => exact ⟨rfl, rfl⟩
        case round =>
          obtain ⟨rfl, rfl⟩ := hrel
          go_wp2_with fail
          go_roundw
          case rel =>
            refine ⟨k + 1, by go_num, by omega, HZ.out.1, fun j hj => ?_⟩
            by_cases hjk : j = k
            · rw [hjk]; exact HZ.out.2
            · exact HE.out j (by omega)
          case measure => simp [intOf]; omega
      · rw [P.ms] at o2 o3
        obtain ⟨x, rfl⟩ : ∃ x, ls = [x] := by
          match ls, o2 with
          | [y], _ => exact ⟨y, rfl⟩
        have om := o3 0 x m rfl rfl
        obtain ⟨q1, k1, hv1⟩ := o1.form
        simp only [List.length_singleton, Value.slice.injEq] at hv1
        obtain ⟨-, rfl, -⟩ := hv1
        obtain ⟨ad, cap, e, hc1, hc2, hit⟩ := o1.sl okMs
        simp only [Value.slice.injEq] at e
        obtain ⟨rfl, -, rfl⟩ := e
        obtain ⟨mb, mo, rfl, hcx⟩ := hit 0 x rfl
        have c0 : w5.cell? ⟨mb, mo, none⟩ = some (.string x.name) := by simpa using hcx 0 _ rfl
        have c1 : w5.cell? ⟨mb, mo + 1, none⟩ = some (.slice x.p.a x.p.n x.p.c) := by simpa using hcx 1 _ rfl
        have c2 : w5.cell? ⟨mb, mo + 2, none⟩ = some (.int .i64 x.ret.k) := by simpa using hcx 2 _ rfl
        have c3 : w5.cell? ⟨mb, mo + 3, none⟩ = some (.string x.ret.c) := by simpa using hcx 3 _ rfl
        have c4 : w5.cell? ⟨mb, mo + 4, none⟩ = some (.int .i64 x.lo) := by simpa using hcx 4 _ rfl
        have c5 : w5.cell? ⟨mb, mo + 5, none⟩ = some (.int .i64 x.st) := by simpa using hcx 5 _ rfl
        have c6 : w5.cell? ⟨mb, mo + 6, none⟩ = some (.slice x.c.a x.c.n x.c.c) := by simpa using hcx 6 _ rfl
        have c7 : w5.cell? ⟨mb, mo + 7, none⟩ = some (.slice x.h.a x.h.n x.h.c) := by simpa using hcx 7 _ rfl
        generalize hW6 : w5.alloc (.cells #[.string x.name, .slice x.p.a x.p.n x.p.c, .int .i64 x.ret.k, .string x.ret.c, .int .i64 x.lo, .int .i64 x.st, .slice x.c.a x.c.n x.c.c, .slice x.h.a x.h.n x.h.c] 64) = w6
        have G6 : Fr no w5 w6 := by rw [← hW6]; exact (Fr.refl no w5).alloc _ _
        have E6 : w6.heap[w5.heap.size]? = some (.cells #[.string x.name, .slice x.p.a x.p.n x.p.c, .int .i64 x.ret.k, .string x.ret.c, .int .i64 x.lo, .int .i64 x.st, .slice x.c.a x.c.n x.c.c, .slice x.h.a x.h.n x.h.c] 64 (0, 0)) := by rw [← hW6]; exact heap_alloc_new w5 _
        have F6 : Fr no w w6 := F5.new G6 (fun _ _ f => f)
        have ST := P.states (om.keep G6) p hp ⟨kn, ks, ⟨kpa, kpn, kpc⟩, ⟨kfa, kfn, kfc⟩, ⟨some ⟨mb, mo, none⟩, 1, kmc⟩⟩ oc5.name (F6.cell HQ.out (fun f => f)) (HT.out w6 F6) (HFO.out.keep F6) fuel res hres
        obtain ⟨a0, a1, a2, a3, a4⟩ := bx5 (G6.heap E5 (fun f => f))
        obtain ⟨b0, b1, b2, b3, b4, b5, b6, b7⟩ := bx8 E6
        have HZ : Hid (_ ∧ _) := ⟨F6, her⟩
        unfold ksV msV at ST
        simp only at ST
        clear o1 o2 o3 oc5 E5 F5 F4 G6 E6 F6 om hcx hit hc1 hc2 P hres her
        obtain ⟨er, ps⟩ := res
        simp only at ST HZ
        go_wp2_with fail
        go_loopw [27] (fun i wr => (i = .int .i64 0 ∧ wr = w5) ∨ (i = .int .i64 1 ∧ Fr no w wr ∧ er = 0)) (fun i _ => 1 - (intOf i).toNat)
        case atStart => exact .inl ⟨rfl, rfl⟩
        case round =>
          rcases hrel with ⟨rfl, rfl⟩ | ⟨rfl, fq, rfl⟩
          · go_wp2_with fail
            refine ST.mono ?_
            rintro e w7 ⟨S, C, c, v, rfl, -, -, f7⟩
            have F7 : Fr no w w7 := HZ.out.1.new f7 (fun _ _ f => f)
            clear f7
            by_cases her : er = 0
            · subst her
              go_wp2_with fail
              go_roundw
              case rel => exact .inr ⟨rfl, F7, trivial⟩
              case measure => simp [intOf]
            · go_wp2_with fail
              go_ret
              exact ⟨_, rfl, F7, .inr ⟨k, hlt, by rw [HZ.out.2]; exact her, HE.out, HZ.out.2.symm⟩⟩
          · go_wp2_with fail
            go_roundw
            case rel =>
              refine ⟨k + 1, by go_num, by omega, fq, fun j hj => ?_⟩
              by_cases hjk : j = k
              · rw [hjk]; exact HZ.out.2
              · exact HE.out j (by omega)
            case measure => simp [intOf]; omega
    · have hkn : k = Cs.length := by omega
      subst hkn
      have N1 := nameEnd_any wr p Cs A (HP.out.keep fr)
      clear fr
      go_wp2_with fail
      refine N1.mono ?_
      rintro e w2 ⟨rfl, f2⟩
      go_wp2_with fail
      go_ret
      exact ⟨_, rfl, HF.out.new f2 (fun _ _ f => f), .inl ⟨HE.out, rfl⟩⟩
end Go.Proofs.YtpfkigoffllieaaGreatDoor

/- The classes that the statements ask about: one class Main with one method main. -/
namespace Go.Proofs.YtpfkigoffllieaaGreatDoor
open Go.ChangeShapes Go.WideShapes Go.ChangeAt Go.RowKit
open H (ky Owns MapOf ix NewV)

def mainN (lo st : Int) (cd : List (Int × Int)) : Mt := ⟨smain, [], ⟨0, e0⟩, lo, st, cd, []⟩
def mainK (lo st : Int) (cd : List (Int × Int)) (pool : List Cs) : Cl := ⟨sMain, e0, pool, [], [mainN lo st cd]⟩
abbrev mainM (cd : List (Int × Int)) : Mt := mainN 3 3 cd
abbrev mainC (cd : List (Int × Int)) (pool : List Cs) : Cl := mainK 3 3 cd pool

set_option maxRecDepth 100000 in
set_option maxHeartbeats 2000000 in
theorem vOf_any (w : World) (ca pa : Option Addr) (cn cc pn pc : Nat) (cd : List (Int × Int)) (pool : List Cs) (hc : SlG elIn w (.slice ca cn cc) cd) (hp : SlG elCs w (.slice pa pn pc) pool) :
    Calls Tryz.prog 17 #[.slice ca cn cc, .slice pa pn pc] w fun e w' => ∃ v, e = .returned v ∧ CsAt w' v [mainC cd pool] ∧ Fr no w w' := by
  have G1 : Fr no w (w.alloc (.cells #[.string smain, .slice none 0 0, .int .i64 0, .string e0, .int .i64 3, .int .i64 3, .slice ca cn cc, .slice none 0 0] 64)) := (Fr.refl no w).alloc _ _
  have O1 : OwnG elMs (w.alloc (.cells #[.string smain, .slice none 0 0, .int .i64 0, .string e0, .int .i64 3, .int .i64 3, .slice ca cn cc, .slice none 0 0] 64)) (.slice (some ⟨w.heap.size, 0, none⟩) 1 1) [⟨smain, ⟨none, 0, 0⟩, ⟨0, e0⟩, 3, 3, ⟨ca, cn, cc⟩, ⟨none, 0, 0⟩⟩] := own_lit okMs w [⟨smain, ⟨none, 0, 0⟩, ⟨0, e0⟩, 3, 3, ⟨ca, cn, cc⟩, ⟨none, 0, 0⟩⟩] #[.string smain, .slice none 0 0, .int .i64 0, .string e0, .int .i64 3, .int .i64 3, .slice ca cn cc, .slice none 0 0] rfl (show 1 ≤ maxLen by decide)
  have s1 : (w.alloc (.cells #[.string smain, .slice none 0 0, .int .i64 0, .string e0, .int .i64 3, .int .i64 3, .slice ca cn cc, .slice none 0 0] 64)).heap.size = w.heap.size + 1 := size_alloc _ _
  generalize hW1 : w.alloc (.cells #[.string smain, .slice none 0 0, .int .i64 0, .string e0, .int .i64 3, .int .i64 3, .slice ca cn cc, .slice none 0 0] 64) = W1 at *
  have G2 : Fr no W1 (W1.alloc (.cells #[.string sMain, .string e0, .slice pa pn pc, .slice none 0 0, .slice (some ⟨w.heap.size, 0, none⟩) 1 1] 68)) := (Fr.refl no W1).alloc _ _
  have O2 : OwnG elKs (W1.alloc (.cells #[.string sMain, .string e0, .slice pa pn pc, .slice none 0 0, .slice (some ⟨w.heap.size, 0, none⟩) 1 1] 68)) (.slice (some ⟨W1.heap.size, 0, none⟩) 1 1) [⟨sMain, e0, ⟨pa, pn, pc⟩, ⟨none, 0, 0⟩, ⟨some ⟨w.heap.size, 0, none⟩, 1, 1⟩⟩] := own_lit okKs W1 [⟨sMain, e0, ⟨pa, pn, pc⟩, ⟨none, 0, 0⟩, ⟨some ⟨w.heap.size, 0, none⟩, 1, 1⟩⟩] #[.string sMain, .string e0, .slice pa pn pc, .slice none 0 0, .slice (some ⟨w.heap.size, 0, none⟩) 1 1] rfl (show 1 ≤ maxLen by decide)
  generalize hW2 : W1.alloc (.cells #[.string sMain, .string e0, .slice pa pn pc, .slice none 0 0, .slice (some ⟨w.heap.size, 0, none⟩) 1 1] 68) = W2 at *
  have hW1' : w.alloc (.cells #[.string ⟨#[109, 97, 105, 110]⟩, .slice none 0 0, .int .i64 0, .string ⟨#[]⟩, .int .i64 3, .int .i64 3, .slice ca cn cc, .slice none 0 0] 64) = W1 := hW1
  have hW2' : W1.alloc (.cells #[.string ⟨#[77, 97, 105, 110]⟩, .string ⟨#[]⟩, .slice pa pn pc, .slice none 0 0, .slice (some ⟨w.heap.size, 0, none⟩) 1 1] 68) = W2 := hW2
  have F2 : Fr no w W2 := G1.new G2 (fun _ _ f => f)
  rw [s1] at O2
  have HZ : Hid (CsAt W2 (.slice (some ⟨w.heap.size + 1, 0, none⟩) 1 1) [mainC cd pool] ∧ Fr no w W2) := by
    refine ⟨⟨_, O2.sl okKs, rfl, fun i k c hk hc' => ?_⟩, F2⟩
    match i, hk, hc' with
    | 0, hk, hc' =>
      simp only [List.getElem?_cons_zero, Option.some.injEq] at hk hc'
      subst hk hc'
      refine ⟨rfl, rfl, hp.kept F2, SlG.nil _ _, _, (O1.keep G2).sl okMs, rfl, fun j x m hx hm => ?_⟩
      match j, hx, hm with
      | 0, hx, hm =>
        simp only [mainC, mainK, mainN, List.getElem?_cons_zero, Option.some.injEq] at hx hm
        subst hx hm
        exact ⟨rfl, rfl, rfl, rfl, SlG.nil _ _, (hc.kept F2).i, SlG.nil _ _⟩
      | j + 1, hx, hm => simp at hx
    | i + 1, hk, hc' => simp at hk
  clear O1 O2 G1 G2 F2 hc hp hW1 hW2
  go_enter Tryz.func17, Tryz.ntmps17
  go_wp2_with fail
  go_ret
  exact ⟨_, rfl, HZ.out⟩
end Go.Proofs.YtpfkigoffllieaaGreatDoor
