/- A program's class by its name. -/
import Derived.Test.YtalgjpmaafooeaaGreatDoorKas
import Derived.Test.YtalgjpmaafooeaaGreatDoorKal
import Derived.Test.YtalgjpmaafooeaaGreatDoorKam
namespace Go.Proofs.YtalgjpmaafooeaaGreatDoor
open Go.ChangeShapes Go.WideShapes Go.ChangeAt Go.RowKit
open H (ky Owns MapOf ix NewV)
theorem results_21 (w : World) (r : Nat) (x0 x1 x2 x3 x4 y : Value) (h : w.heap[r]? = some (.cells #[x0, x1, x2, x3, x4] 51 (0, 0))) (tmps : Array Value) (h2 : tmps.getD 4 undef = .pointer (some ⟨r, 0, none⟩)) (h3 : tmps.getD 5 undef = y) :
 (results Tryz.f26 tmps).run Tryz.prog w = .ok (.tuple #[.agg #[x0, x1, x2, x3, x4], y]) w := by
 have hl : (loadVar 51 ⟨r, 0, none⟩).run Tryz.prog w = .ok (.agg #[x0, x1, x2, x3, x4]) w := run_loadVar_row (P := Tryz.prog) w r 51 51 #[x0, x1, x2, x3, x4] (0, 0) _ h Tryz.underlying51 rfl (by kernel_rfl)
 have h2' : tmps[4]?.getD undef = .pointer (some ⟨r, 0, none⟩) := by simpa using h2
 have h3' : tmps[5]?.getD undef = y := by simpa using h3
 simp [results, asAddr, h2', h3', hl]
set_option maxRecDepth 100000 in
set_option maxHeartbeats 4000000 in
theorem class_any (w : World) (p : Nat) (Cs : List Cl) (A : List Nat) (h : Prg w p Cs A) (hsm : ∀ c ∈ Cs, SmallC c) (s : ByteArray) (hs : s.size ≤ 1099511627776) (i : Nat) (hi : ix s (namesOf Cs) = some i) :
 Calls Tryz.prog 26 #[.pointer (some ⟨p, 0, none⟩), .string s] w fun e w' => ∃ k, e = .returned (.tuple #[ksV k, .bool true]) ∧ ClOwn w' k (clsAt Cs i) ∧ Fr no w w' := by
 obtain ⟨w0, hp, m, v, X, ch, h, -⟩ := h.ex
 rw [← layAll_names Cs A] at hi
 have hil : i < (layAll Cs A).length := by have := H.ix_lt hi; simpa [namesY] using this
 obtain ⟨x, y, hx, hy, L⟩ := h.get hil
 have hcl : i < Cs.length := by simpa [layAll] using hil
 have hyc : y.c = clsAt Cs i := by
  rw [layAll_get hcl] at hy
  simp only [Option.some.injEq] at hy
  rw [← hy]
  exact lay_cls Cs A i
 have hsc : SmallC (clsAt Cs i) := hsm _ (by unfold clsAt; rw [List.getD_eq_getElem?_getD, List.getElem?_eq_getElem hcl]; exact List.getElem_mem hcl)
 have G0 : Fr no w (w.alloc (.cells #[.string ⟨#[]⟩, .string ⟨#[]⟩, .slice none 0 0, .slice none 0 0, .slice none 0 0] 51)) := (Fr.refl no w).alloc _ _
 have E0 : (w.alloc (.cells #[.string ⟨#[]⟩, .string ⟨#[]⟩, .slice none 0 0, .slice none 0 0, .slice none 0 0] 51)).heap[w.heap.size]? = some (.cells #[.string ⟨#[]⟩, .string ⟨#[]⟩, .slice none 0 0, .slice none 0 0, .slice none 0 0] 51 (0, 0)) := heap_alloc_new w _
 have P0 := h.keep G0
 obtain ⟨c, hl, -, hc⟩ := P0.look s hs
 obtain rfl := hc i hi
 rw [hi] at hl
 simp only [Option.isSome_some] at hl
 obtain ⟨qv, cv, rfl⟩ := h.form
 obtain ⟨b0, b1, b2⟩ := cells3 P0.pb
 obtain ⟨g, rfl⟩ := P0.row.some_of (fun e => by rw [e] at hx; simp at hx)
 have d : ∀ j u, (lkC x)[j]? = some u → _ := fun j u hj => P0.row.cell okLk hx hj
 have d0 := d 0 _ rfl
 have d1 := d 1 _ rfl
 have d2 := d 2 _ rfl
 have d3 := d 3 _ rfl
 have d4 := d 4 _ rfl
 simp only [elLk, Nat.add_zero] at d0 d1 d2 d3 d4
 have hil' : (i : Int) < ((layAll Cs A).length : Int) := by omega
 have CC := copyClass_any (w.alloc (.cells #[.string ⟨#[]⟩, .string ⟨#[]⟩, .slice none 0 0, .slice none 0 0, .slice none 0 0] 51)) x.k (clsAt Cs i) (hyc ▸ (L.k.keep G0).at') hsc
 have HZ : Hid (_ ∧ _) := ⟨E0, G0⟩
 clear h hs hi L hc d P0 E0 G0 hy hil hx hyc hsc hcl hsm
 unfold ksV at CC ⊢
 generalize hW : w.alloc (.cells #[.string ⟨#[]⟩, .string ⟨#[]⟩, .slice none 0 0, .slice none 0 0, .slice none 0 0] 51) = W at *
 generalize (layAll Cs A).length = n at *
 go_enter Tryz.func26, Tryz.ntmps26
 go_wp2_with fail
 refine CC.mono ?_
 rintro e w2 ⟨⟨kn, ks, ⟨kpa, kpn, kpc⟩, ⟨kfa, kfn, kfc⟩, ⟨kma, kmn, kmc⟩⟩, rfl, oc, F2⟩
 have E2 := F2.heap HZ.out.1 (fun f => f)
 have HC5 : Hid (_) := chain5 E2 (.string kn) (.string ks) (.slice kpa kpn kpc) (.slice kfa kfn kfc) (.slice kma kmn kmc)
 have HF5 : Hid (_) := frc5 w2 w.heap.size (.string kn) (.string ks) (.slice kpa kpn kpc) (.slice kfa kfn kfc) (.slice kma kmn kmc)
 obtain ⟨y0, y1, y2, y3, y4⟩ := box5 E2
 have fz := fun o => frozen_at (o := o) E2
 have HE2 : Hid _ := E2
 have HO : Hid (_ ∧ _) := ⟨oc, HZ.out.2.new F2 (fun _ _ f => f)⟩
 clear E2 oc F2 CC b0 b1 b2 d0 d1 d2 d3 d4 hl
 go_wp2_with fail
 refine bodyPost_ret (results_21 _ w.heap.size (.string kn) (.string ks) (.slice kpa kpn kpc) (.slice kfa kfn kfc) (.slice kma kmn kmc) _ HC5.out _ rfl rfl) rfl ?_
 obtain ⟨o2, f2⟩ := HO.out
 refine ⟨⟨kn, ks, ⟨kpa, kpn, kpc⟩, ⟨kfa, kfn, kfc⟩, ⟨kma, kmn, kmc⟩⟩, by kernel_rfl, o2.kept HF5.out (fun k hk cur e he => ?_), f2.new HF5.out (fun i hi e => by omega)⟩
 rw [hk, HE2.out] at he
 simp only [Option.some.injEq, Obj.cells.injEq] at he
 obtain ⟨-, rfl, -⟩ := he
 decide
end Go.Proofs.YtalgjpmaafooeaaGreatDoor
/- The first method, found by its name. -/
namespace Go.Proofs.YtalgjpmaafooeaaGreatDoor
open Go.ChangeShapes Go.WideShapes Go.ChangeAt Go.RowKit
open H (ky Owns MapOf ix NewV)
set_option maxRecDepth 100000 in
set_option maxHeartbeats 2000000 in
theorem nameIs_any (w : World) (x : Ms) (q : Nat) (h : w.cell? ⟨q, 0, none⟩ = some (.string x.name)) :
 Calls Tryz.prog 55 #[.agg #[.string x.name, .slice x.p.a x.p.n x.p.c, .int .i64 x.ret.k, .string x.ret.c, .int .i64 x.lo, .int .i64 x.st, .slice x.c.a x.c.n x.c.c, .slice x.h.a x.h.n x.h.c], .pointer (some ⟨q, 0, none⟩)] w fun e w' => e = .returned (.bool true) ∧ Fr no w w' := by
 have G : Fr no w (w.alloc (.cells #[.string x.name, .slice x.p.a x.p.n x.p.c, .int .i64 x.ret.k, .string x.ret.c, .int .i64 x.lo, .int .i64 x.st, .slice x.c.a x.c.n x.c.c, .slice x.h.a x.h.n x.h.c] 47)) := (Fr.refl no w).alloc _ _
 have hq := G.cell h (fun f => f)
 have e0 : (w.alloc (.cells #[.string x.name, .slice x.p.a x.p.n x.p.c, .int .i64 x.ret.k, .string x.ret.c, .int .i64 x.lo, .int .i64 x.st, .slice x.c.a x.c.n x.c.c, .slice x.h.a x.h.n x.h.c] 47)).cell? ⟨w.heap.size, 0, none⟩ = some (.string x.name) := cell_at (o := 0) (heap_alloc_new w _)
 generalize hW : w.alloc (.cells #[.string x.name, .slice x.p.a x.p.n x.p.c, .int .i64 x.ret.k, .string x.ret.c, .int .i64 x.lo, .int .i64 x.st, .slice x.c.a x.c.n x.c.c, .slice x.h.a x.h.n x.h.c] 47) = W at *
 clear h
 have HG : Hid _ := G
 clear G
 go_enter Tryz.func55, Tryz.ntmps55
 go_wp2_with fail
 go_ret
 exact ⟨rfl, HG.out⟩
set_option maxRecDepth 100000 in
set_option maxHeartbeats 2000000 in
theorem findFirst_any (w : World) (v : Value) (x : Ms) (r : List Ms) (h : SlG elMs w v (x :: r)) (q : Nat) (hq : w.cell? ⟨q, 0, none⟩ = some (.string x.name)) :
 Calls Tryz.prog 54 #[v, .func (.func 55) #[] #[.pointer (some ⟨q, 0, none⟩)]] w fun e w' => e = .returned (.int .i64 0) ∧ Fr no w w' := by
 obtain ⟨ad, cp, rfl, hcap, hmx, hit⟩ := h
 obtain ⟨b, off, rfl, hc⟩ := hit 0 x rfl
 have c0 : w.cell? ⟨b, off, none⟩ = some (.string x.name) := by simpa using hc 0 _ rfl
 have c1 : w.cell? ⟨b, off + 1, none⟩ = some (.slice x.p.a x.p.n x.p.c) := by simpa using hc 1 _ rfl
 have c2 : w.cell? ⟨b, off + 2, none⟩ = some (.int .i64 x.ret.k) := by simpa using hc 2 _ rfl
 have c3 : w.cell? ⟨b, off + 3, none⟩ = some (.string x.ret.c) := by simpa using hc 3 _ rfl
 have c4 : w.cell? ⟨b, off + 4, none⟩ = some (.int .i64 x.lo) := by simpa using hc 4 _ rfl
 have c5 : w.cell? ⟨b, off + 5, none⟩ = some (.int .i64 x.st) := by simpa using hc 5 _ rfl
 have c6 : w.cell? ⟨b, off + 6, none⟩ = some (.slice x.c.a x.c.n x.c.c) := by simpa using hc 6 _ rfl
 have c7 : w.cell? ⟨b, off + 7, none⟩ = some (.slice x.h.a x.h.n x.h.c) := by simpa using hc 7 _ rfl
 have E := nameIs_any w x q hq
 generalize hl : (x :: r).length = n at *
 have hn0 : 0 < n := by rw [← hl]; simp
 have hni : (0 : Int) < (n : Int) := by omega
 clear hc hit hq hcap hmx hl
 go_enter Tryz.func54, Tryz.ntmps54
 go_wp2_with fail
 go_loopw [8] (fun i wr => i = .int .i64 0 ∧ wr = w) (fun _ _ => 0)
 case atStart => exact ⟨rfl, rfl⟩
 case round =>
  obtain ⟨rfl, rfl⟩ := hrel
  go_wp2_with fail
  refine E.mono ?_
  rintro e w2 ⟨rfl, f2⟩
  go_wp2_with fail
  go_ret
  exact ⟨rfl, f2⟩
end Go.Proofs.YtalgjpmaafooeaaGreatDoor
/- Method: the states of a class's one method. -/
namespace Go.Proofs.YtalgjpmaafooeaaGreatDoor
open Go.ChangeShapes Go.WideShapes Go.ChangeAt Go.RowKit
open H (ky Owns MapOf ix NewV)
theorem OwnG.nil0 {α : Type} {K : El α} {w : World} {a : Option Addr} {n c : Nat} (h : OwnG K w (.slice a n c) []) : n = 0 ∧ (a = none → c = 0) := by
 rcases h.1.2 with ⟨e, _⟩ | ⟨g, cap, cur, e, _⟩
 · simp only [Value.slice.injEq] at e
   exact ⟨e.2.1, fun _ => e.2.2⟩
 · simp only [Value.slice.injEq] at e
   exact ⟨e.2.1, fun h => by rw [h] at e; simp at e⟩
structure Plain1 (c : Cl) (m : Mt) (ts : List Ty) : Prop where
 ms : c.methods = [m]
 par : m.params = []
 lo : Low m.lo ts
 hh : m.hands = []
 pos : 0 < m.code.length
 few : m.code.length ≤ 200
 ops : ∀ x ∈ m.code, x.1 ∈ plainOps ∨ x.1 = 33 ∧ m.ret.k = 0 ∨ x.1 = 25 ∧ ∃ (i : Nat) (y : Cs), x.2 = (i : Int) ∧ c.pool[i]? = some y ∧ y.c = sMain
theorem atMain_of {w : World} {a : Option Addr} {n cp : Nat} {pool : List Cs} (h : SlG elCs w (.slice a n cp) pool) {i : Nat} {y : Cs} (hy : pool[i]? = some y) (hc : y.c = sMain) : AtMain w (.slice a n cp) (i : Int) := by
 obtain ⟨ad, cap, e, -, -, hit⟩ := h
 simp only [Value.slice.injEq] at e
 obtain ⟨rfl, rfl, rfl⟩ := e
 obtain ⟨b, off, rfl, hj⟩ := hit i y hy
 exact ⟨b, off, _, _, i, rfl, rfl, (List.getElem?_eq_some_iff.1 hy).1, by rw [← hc]; exact hj 3 _ rfl⟩
theorem Plain1.states {w : World} {x : Ms} {c : Cl} {m : Mt} {ts : List Ty} (P : Plain1 c m ts) (o : MtOwn w x m) (p hp : Nat) (k : Ks) (hk : k.name = c.name) (hpl : SlG elCs w (.slice k.p.a k.p.n k.p.c) c.pool) (hq : w.cell? ⟨p, 0, none⟩ = some (.pointer (some ⟨hp, 0, none⟩))) (tr : Tr w) (fo : FitQ w (.pointer (some ⟨hp, 0, none⟩))) (fuel : Nat) (res : Int × Ps) (hres : settleP m.st m.code (m.code.map fun x => ruleP x.1) fuel 0 (beg c.name ts m.code.length) = some res) :
 Calls Tryz.prog 56 #[.pointer (some ⟨p, 0, none⟩), ksV k, msV x] w fun e w' => ∃ S C c v, e = .returned (.tuple #[v, .int .i64 res.1]) ∧ (res.1 = 0 → v = .slice (some ⟨S, 0, none⟩) m.code.length m.code.length ∧ Fl w' S C c m.code.length res.2.1 res.2.2 ∧ w.heap.size ≤ S) ∧ (res.1 ≠ 0 → v = .slice none 0 0) ∧ Fr no w w' := by
 have q1 := (P.par ▸ o.p : OwnG elTy w _ []).nil0
 have q2 := (P.hh ▸ o.h : OwnG elHd w _ []).nil0
 refine statesOf_any w p hp k x m.code hq (o.c.sl okIn) P.pos P.few (fun y hy => by rw [o.ret]; exact (P.ops y hy).imp id (Or.imp id (fun q => ⟨q.1, by obtain ⟨i, z, e, h1, h2⟩ := q.2; rw [e]; exact atMain_of hpl h1 h2⟩))) q1.1 q1.2 ts (o.lo ▸ P.lo) q2.1 tr fo fuel res ?_
 rw [o.st, hk]
 exact hres
set_option maxRecDepth 100000 in
set_option maxHeartbeats 4000000 in
theorem vMethod_any (w : World) (p : Nat) (Cs : List Cl) (A : List Nat) (h : Prg w p Cs A) (hsm : ∀ c ∈ Cs, SmallC c) (s : ByteArray) (hs : s.size ≤ 1099511627776) (i : Nat) (hi : ix s (namesOf Cs) = some i) (m : Mt) (ts : List Ty) (P : Plain1 (clsAt Cs i) m ts) (tr : Tr w) (fo : ∀ hp, w.cell? ⟨p, 0, none⟩ = some (.pointer (some ⟨hp, 0, none⟩)) → FitQ w (.pointer (some ⟨hp, 0, none⟩)))
 (fuel : Nat) (res : Int × Ps) (hres : settleP m.st m.code (m.code.map fun x => ruleP x.1) fuel 0 (beg (clsAt Cs i).name ts m.code.length) = some res) :
 Calls Tryz.prog 29 #[.pointer (some ⟨p, 0, none⟩), .string s, .string m.name] w fun e w' => ∃ S C c v, e = .returned (.tuple #[v, .int .i64 res.1]) ∧ (res.1 = 0 → v = .slice (some ⟨S, 0, none⟩) m.code.length m.code.length ∧ Fl w' S C c m.code.length res.2.1 res.2.2 ∧ w.heap.size ≤ S) ∧ (res.1 ≠ 0 → v = .slice none 0 0) ∧ Fr no w w' := by
 obtain ⟨w0, hp, mm, v0, X, ch, h1, -⟩ := h.ex
 have HQ : Hid (w.cell? ⟨p, 0, none⟩ = some (.pointer (some ⟨hp, 0, none⟩))) := cell_at (o := 0) h1.pb
 have G0 : Fr no w (w.alloc (.cells #[.string m.name] 9)) := (Fr.refl no w).alloc _ _
 have c0 : (w.alloc (.cells #[.string m.name] 9)).cell? ⟨w.heap.size, 0, none⟩ = some (.string m.name) := cell_at (o := 0) (heap_alloc_new w _)
 have CL := class_any _ p Cs A (h.keep G0) hsm s hs i hi
 have HP : Hid _ := P
 have HR : Hid _ := hres
 have HT : Hid _ := tr
 have HFO : Hid (FitQ w (.pointer (some ⟨hp, 0, none⟩))) := fo hp HQ.out
 have HG : Hid _ := G0
 have HC : Hid _ := c0
 clear h h1 hi hs hsm P tr hres G0 c0 fo
 generalize hW : w.alloc (.cells #[.string m.name] 9) = W at *
 go_enter Tryz.func29, Tryz.ntmps29
 go_wp2_with fail
 refine CL.mono ?_
 rintro e w2 ⟨⟨kn, ks, ⟨kpa, kpn, kpc⟩, ⟨kfa, kfn, kfc⟩, ⟨kma, kmn, kmc⟩⟩, rfl, oc, F2⟩
 obtain ⟨ls, o1, o2, o3⟩ := oc.m
 rw [HP.out.ms] at o2 o3
 obtain ⟨x, rfl⟩ : ∃ x, ls = [x] := by
  match ls, o2 with
  | [y], _ => exact ⟨y, rfl⟩
 have om := o3 0 x m rfl rfl
 simp only at o1
 obtain ⟨q1, k1, hv1⟩ := o1.form
 simp only [List.length_singleton, Value.slice.injEq] at hv1
 obtain ⟨-, rfl, -⟩ := hv1
 obtain ⟨ad, cap, e, hc1, hc2, hit⟩ := o1.sl okMs
 simp only [Value.slice.injEq] at e
 obtain ⟨rfl, -, rfl⟩ := e
 obtain ⟨mb, mo, rfl, hcx⟩ := hit 0 x rfl
 clear CL
 generalize hW3 : w2.alloc (.cells #[.string kn, .string ks, .slice kpa kpn kpc, .slice kfa kfn kfc, .slice (some ⟨mb, mo, none⟩) 1 kmc] 51) = w3
 have G3 : Fr no w2 w3 := by rw [← hW3]; exact (Fr.refl no w2).alloc _ _
 have E3 : w3.heap[w2.heap.size]? = some (.cells #[.string kn, .string ks, .slice kpa kpn kpc, .slice kfa kfn kfc, .slice (some ⟨mb, mo, none⟩) 1 kmc] 51 (0, 0)) := by rw [← hW3]; exact heap_alloc_new w2 _
 have E34 := cell_at (o := 4) E3
 simp at E34
 have FF := findFirst_any w3 _ x [] ((o1.sl okMs).kept G3) w.heap.size (by rw [om.name]; exact G3.cell (F2.cell HC.out (fun f => f)) (fun f => f))
 have HB : Hid (_ ∧ _ ∧ _ ∧ _ ∧ _ ∧ _) := ⟨oc, om, hcx, G3, E3, F2⟩
 clear oc om hcx G3 E3 F2 o1 o2 o3 hit hc1 hc2
 unfold ksV
 simp only
 go_wp2_with fail
 refine FF.mono ?_
 rintro e w4 ⟨rfl, F4⟩
 clear FF E34
 have HL : Hid (∀ w', Fr no w4 w' → w'.heap[w2.heap.size]? = some (.cells #[.string kn, .string ks, .slice kpa kpn kpc, .slice kfa kfn kfc, .slice (some ⟨mb, mo, none⟩) 1 kmc] 51 (0, 0)) ∧ (∀ j u, ([.string x.name, .slice x.p.a x.p.n x.p.c, .int .i64 x.ret.k, .string x.ret.c, .int .i64 x.lo, .int .i64 x.st, .slice x.c.a x.c.n x.c.c, .slice x.h.a x.h.n x.h.c] : List Value)[j]? = some u → w'.cell? ⟨mb, mo + j, none⟩ = some u)) := fun w' hf => by
  obtain ⟨oc, om, hcx, G3, E3, F2⟩ := HB.out
  refine ⟨hf.heap (F4.heap E3 (fun f => f)) (fun f => f), fun j u hj => ?_⟩
  have := hcx j u hj
  rw [Nat.zero_mul, Nat.add_zero] at this
  exact hf.cell (F4.cell (G3.cell this (fun f => f)) (fun f => f)) (fun f => f)
 have HS5 : Hid (Fr no w4 w4.drew) := (Fr.refl no w4).drew
 have HW4 : Hid (Fr no w w4) := ((HG.out.new HB.out.2.2.2.2.2 (fun _ _ f => f)).new HB.out.2.2.2.1 (fun _ _ f => f)).new F4 (fun _ _ f => f)
 have HCALL : Hid (Calls Tryz.prog 56 #[.pointer (some ⟨p, 0, none⟩), .agg #[.string kn, .string ks, .slice kpa kpn kpc, .slice kfa kfn kfc, .slice (some ⟨mb, mo, none⟩) 1 kmc], .agg #[.string x.name, .slice x.p.a x.p.n x.p.c, .int .i64 x.ret.k, .string x.ret.c, .int .i64 x.lo, .int .i64 x.st, .slice x.c.a x.c.n x.c.c, .slice x.h.a x.h.n x.h.c]] w4.drew fun e w' => ∃ S C c v, e = .returned (.tuple #[v, .int .i64 res.1]) ∧ (res.1 = 0 → v = .slice (some ⟨S, 0, none⟩) m.code.length m.code.length ∧ Fl w' S C c m.code.length res.2.1 res.2.2 ∧ w4.drew.heap.size ≤ S) ∧ (res.1 ≠ 0 → v = .slice none 0 0) ∧ Fr no w4.drew w') :=
  HP.out.states (((HB.out.2.1.keep HB.out.2.2.2.1).keep F4).keep HS5.out) p hp ⟨kn, ks, ⟨kpa, kpn, kpc⟩, ⟨kfa, kfn, kfc⟩, ⟨some ⟨mb, mo, none⟩, 1, kmc⟩⟩ HB.out.1.name ((((HB.out.1.p.keep HB.out.2.2.2.1).keep F4).keep HS5.out).sl okCs) (HW4.out.drew.cell HQ.out (fun f => f)) (Tr.kept HT.out HW4.out.drew) (HFO.out.keep HW4.out.drew) fuel res HR.out
 clear F4
 go_wp2_with fail
 refine late_begin (S := fun w' => Fr no w4 w') (g := 10) (by kernel_rfl) ?_
 refine lateP 0 (ptr p 0) rfl (fun _ => ev_move 0 _ rfl (by kernel_rfl)) (fun _ => HS5.out) ?_
 refine lateT 1 (.agg #[.string kn, .string ks, .slice kpa kpn kpc, .slice kfa kfn kfc, .slice (some ⟨mb, mo, none⟩) 1 kmc]) rfl (fun w' hS => ev_load 51 8 (ptr w2.heap.size 0) _ rfl (by kernel_rfl) (load_row w' w2.heap.size 51 _ _ (HL.out w' hS).1 Tryz.underlying51 rfl (by kernel_rfl))) (HS5.out) ?_
 refine lateP 2 (ptr w2.heap.size 4) rfl (fun _ => ev_field 51 8 4 (ptr w2.heap.size 0) _ rfl (by kernel_rfl) (by kernel_rfl)) (fun _ => HS5.out) ?_
 refine lateT 3 (.slice (some ⟨mb, mo, none⟩) 1 kmc) rfl (fun w' hS => ev_load 48 25 (ptr w2.heap.size 4) _ rfl (by kernel_rfl) (by simp [go_sem, cell_at (o := 4) (HL.out w' hS).1])) (HS5.out) ?_
 refine lateP 4 (.int .i64 0) rfl (fun _ => ev_move 10 _ rfl (by kernel_rfl)) (fun _ => HS5.out) ?_
 refine lateP 5 (ptr mb mo) rfl (fun _ => ev_index 48 26 27 (.slice (some ⟨mb, mo, none⟩) 1 kmc) (.int .i64 0) _ rfl (by kernel_rfl) (by kernel_rfl) (by simp [go_sem])) (fun _ => HS5.out) ?_
 refine lateT 6 (.agg #[.string x.name, .slice x.p.a x.p.n x.p.c, .int .i64 x.ret.k, .string x.ret.c, .int .i64 x.lo, .int .i64 x.st, .slice x.c.a x.c.n x.c.c, .slice x.h.a x.h.n x.h.c]) rfl (fun w' hS => ev_load 47 28 (ptr mb mo) _ rfl (by kernel_rfl) (run_loadAt_mid (P := Tryz.prog) w' mb mo 47 [.string x.name, .slice x.p.a x.p.n x.p.c, .int .i64 x.ret.k, .string x.ret.c, .int .i64 x.lo, .int .i64 x.st, .slice x.c.a x.c.n x.c.c, .slice x.h.a x.h.n x.h.c] _ (HL.out w' hS).2 Tryz.underlying47 rfl (by kernel_rfl))) (HS5.out) ?_
 refine late_all [7] (by kernel_rfl) (by simp) (fun jj hjj => ?_)
 obtain rfl := one_of hjj
 refine late_call (f := 56) rfl rfl (by kernel_rfl) (R := fun v w' => ∃ S C c u, v = .tuple #[u, .int .i64 res.1] ∧ (res.1 = 0 → u = .slice (some ⟨S, 0, none⟩) m.code.length m.code.length ∧ Fl w' S C c m.code.length res.2.1 res.2.2 ∧ w4.drew.heap.size ≤ S) ∧ (res.1 ≠ 0 → u = .slice none 0 0) ∧ Fr no w4.drew w') (HCALL.out.mono (fun e w' ⟨S, C, c, u, h1, h2⟩ => ⟨_, h1, S, C, c, u, rfl, h2⟩)) (fun v w5 hv => ?_)
 obtain ⟨S, C, c, u, rfl, a1, a2, f5⟩ := hv
 have g5 : Fr no w4 w5 := (Fr.refl no w4).drew.new f5 (fun _ _ f => f)
 refine ⟨fun _ => g5, ?_⟩
 refine lateP 8 (u) rfl (fun _ => by kernel_rfl) (fun _ => g5) ?_
 refine lateP 9 (.int .i64 res.1) rfl (fun _ => by kernel_rfl) (fun _ => g5) ?_
 refine late_all [10] (by kernel_rfl) (by simp) (fun jj hjj => ?_)
 obtain rfl := one_of hjj
 refine late_op rfl rfl (ev_assign 31 u rfl (by kernel_rfl)) ?_
 refine ⟨(fun h => Bool.noConfusion (show true = false from h)), ?_⟩
 refine late_all [11] (by kernel_rfl) (by simp) (fun jj hjj => ?_)
 obtain rfl := one_of hjj
 refine late_op rfl rfl (ev_assign 32 (.int .i64 res.1) rfl (by kernel_rfl)) ?_
 refine ⟨(fun h => Bool.noConfusion (show true = false from h)), ?_⟩
 refine late_done (by kernel_rfl) ?_
 go_wp2_with fail
 go_ret2
 exact ⟨S, C, c, u, by kernel_rfl, fun h => ⟨(a1 h).1, (a1 h).2.1, Nat.le_trans HW4.out.size (a1 h).2.2⟩, a2, HW4.out.new g5 (fun _ _ f => f)⟩
end Go.Proofs.YtalgjpmaafooeaaGreatDoor
/- All: the first error. -/
namespace Go.Proofs.YtalgjpmaafooeaaGreatDoor
open Go.ChangeShapes Go.WideShapes Go.ChangeAt Go.RowKit
open H (ky Owns MapOf ix NewV)
set_option maxRecDepth 100000 in
set_option maxHeartbeats 2000000 in
theorem nameEnd_any (w : World) (p : Nat) (Cs : List Cl) (A : List Nat) (h : Prg w p Cs A) :
 Calls Tryz.prog 25 #[.pointer (some ⟨p, 0, none⟩), .int .i64 (Cs.length : Int)] w fun e w' => e = .returned (.string ⟨#[]⟩) ∧ Fr no w w' := by
 obtain ⟨w0, hp, m, v, X, ch, P, -⟩ := h.ex
 obtain ⟨qv, cv, rfl⟩ := P.form
 have P0 := P
 rw [layAll_len] at P0
 obtain ⟨-, b1, b2⟩ := cells3 P0.pb
 have hi0 : ((Cs.length : Int) < 0) = False := by simp
 clear P P0 h
 generalize hcl2 : Cs.length = n at *
 go_enter Tryz.func25, Tryz.ntmps25
 go_wp2_with fail
 go_ret
 exact ⟨rfl, Fr.refl no w⟩
end Go.Proofs.YtalgjpmaafooeaaGreatDoor
