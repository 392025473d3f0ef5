/- A method's states. -/
import Derived.Test.YtpfkigoffllieaaGreatDoorJba
import Derived.Test.YtpfkigoffllieaaGreatDoorJap
import Derived.Test.YtpfkigoffllieaaGreatDoorJaq
namespace Go.Proofs.YtpfkigoffllieaaGreatDoor
open Go.ChangeShapes Go.WideShapes Go.ChangeAt Go.RowKit
open H (ix NewV)

theorem bx5 {w : World} {q : Nat} {a0 a1 a2 a3 a4 : Value} {t : TypeId} (h : w.heap[q]? = some (.cells #[a0, a1, a2, a3, a4] t (0, 0))) : w.cell? ⟨q, 0, none⟩ = some a0 ∧ w.cell? ⟨q, 1, none⟩ = some a1 ∧ w.cell? ⟨q, 2, none⟩ = some a2 ∧ w.cell? ⟨q, 3, none⟩ = some a3 ∧ w.cell? ⟨q, 4, none⟩ = some a4 :=
  ⟨cell_at h, cell_at h, cell_at h, cell_at h, cell_at h⟩
theorem bx8 {w : World} {q : Nat} {a0 a1 a2 a3 a4 a5 a6 a7 : Value} {t : TypeId} (h : w.heap[q]? = some (.cells #[a0, a1, a2, a3, a4, a5, a6, a7] t (0, 0))) : w.cell? ⟨q, 0, none⟩ = some a0 ∧ w.cell? ⟨q, 1, none⟩ = some a1 ∧ w.cell? ⟨q, 2, none⟩ = some a2 ∧ w.cell? ⟨q, 3, none⟩ = some a3 ∧ w.cell? ⟨q, 4, none⟩ = some a4 ∧ w.cell? ⟨q, 5, none⟩ = some a5 ∧ w.cell? ⟨q, 6, none⟩ = some a6 ∧ w.cell? ⟨q, 7, none⟩ = some a7 :=
  ⟨cell_at h, cell_at h, cell_at h, cell_at h, cell_at h, cell_at h, cell_at h, cell_at h⟩

/-- How a flow of a method of a class begins. -/
def beg (kn : ByteArray) (ts : List Ty) (n : Nat) : Ps := (⟨true, ⟨4, kn⟩ :: ts, []⟩ :: List.replicate (n - 1) ⟨false, [], []⟩, true :: List.replicate (n - 1) false)

set_option maxRecDepth 100000 in
set_option maxHeartbeats 4000000 in
theorem statesOf_any (w : World) (p hp : Nat) (k : Ks) (m : Ms) (cd : List (Int × Int)) (hq : w.cell? ⟨p, 0, none⟩ = some (.pointer (some ⟨hp, 0, none⟩))) (hcd : SlG elIn w (.slice m.c.a m.c.n m.c.c) cd) (h0 : 0 < cd.length) (h2 : cd.length ≤ 200)
    (hops : ∀ x ∈ cd, x.1 ∈ plainOps ∨ x.1 = 33 ∧ m.ret.k = 0) (hpn : m.p.n = 0) (hp0 : m.p.a = none → m.p.c = 0) (ts : List Ty) (hlo : Low m.lo ts) (hh : m.h.n = 0) (tr : Tr w) (fo : FitQ w (.pointer (some ⟨hp, 0, none⟩)))
    (fuel : Nat) (res : Int × Ps) (hres : settleP m.st cd (cd.map fun x => ruleP x.1) fuel 0 (beg k.name ts cd.length) = some res) :
    Calls Tryz.prog 33 #[.pointer (some ⟨p, 0, none⟩), ksV k, msV m] w fun e w' => ∃ S C c v, e = .returned (.tuple #[v, .int .i64 res.1]) ∧ (res.1 = 0 → v = .slice (some ⟨S, 0, none⟩) cd.length cd.length ∧ Fl w' S C c cd.length res.2.1 res.2.2) ∧ (res.1 ≠ 0 → v = .slice none 0 0) ∧ Fr no w w' := by
  obtain ⟨kn, ks, ⟨kpa, kpn, kpc⟩, ⟨kfa, kfn, kfc⟩, ⟨kma, kmn, kmc⟩⟩ := k
  obtain ⟨mn, ⟨pa, pn, pc⟩, ⟨rk, rc⟩, lo, st, ⟨ca, cn', cc⟩, ⟨ha, hn, hc⟩⟩ := m
  generalize hW1 : (w.alloc (.cells #[.string kn, .string ks, .slice kpa kpn kpc, .slice kfa kfn kfc, .slice kma kmn kmc] 68)).alloc (.cells #[.string mn, .slice pa pn pc, .int .i64 rk, .string rc, .int .i64 lo, .int .i64 st, .slice ca cn' cc, .slice ha hn hc] 64) = W1
  have F1 : Fr no w W1 := by rw [← hW1]; exact ((Fr.refl no w).alloc _ _).new ((Fr.refl no _).alloc _ _) (fun _ _ f => f)
  have E0 : W1.heap[w.heap.size]? = some (.cells #[.string kn, .string ks, .slice kpa kpn kpc, .slice kfa kfn kfc, .slice kma kmn kmc] 68 (0, 0)) := by rw [← hW1]; exact ((Fr.refl no _).alloc _ _).heap (heap_alloc_new w _) (fun f => f)
  have E1 : W1.heap[w.heap.size + 1]? = some (.cells #[.string mn, .slice pa pn pc, .int .i64 rk, .string rc, .int .i64 lo, .int .i64 st, .slice ca cn' cc, .slice ha hn hc] 64 (0, 0)) := by rw [← hW1, ← size_alloc w (.cells #[.string kn, .string ks, .slice kpa kpn kpc, .slice kfa kfn kfc, .slice kma kmn kmc] 68)]; exact heap_alloc_new _ _
  obtain ⟨a0, a1, a2, a3, a4⟩ := bx5 E0
  obtain ⟨b0, b1, b2, b3, b4, b5, b6, b7⟩ := bx8 E1
  clear E0 E1
  have NF := newFlow_any W1 p hp ⟨kn, ks, ⟨kpa, kpn, kpc⟩, ⟨kfa, kfn, kfc⟩, ⟨kma, kmn, kmc⟩⟩ ⟨mn, ⟨pa, pn, pc⟩, ⟨rk, rc⟩, lo, st, ⟨ca, cn', cc⟩, ⟨ha, hn, hc⟩⟩ cd (F1.cell hq (fun f => f)) (hcd.kept F1) h0 h2 hops hpn hp0 ts hlo hh (tr.kept F1) (fo.keep F1)
  have HRES : Hid _ := hres
  have HF1 : Hid _ := F1
  clear hq hcd hops hpn hp0 hlo hh tr hres F1 fo
  obtain ⟨err, ps⟩ := res
  unfold ksV msV at *
  simp only at NF HRES ⊢
  go_enter Tryz.func33, Tryz.ntmps33
  go_wp2_with fail
  refine NF.mono ?_
  rintro e w2 ⟨f, S, C, c, rfl, EV, FL, hcw, hf, hl, F2⟩
  have SE := settle_any w2 f S C c st cd _ _ EV FL hcw hf fuel _ HRES.out
  have HEV : Hid _ := EV
  have HX : Hid _ := hl
  have HF2 : Hid _ := F2
  clear EV FL NF hl F2 a0 a1 a2 a3 a4 b0 b1 b2 b3 b4 b5 b6 b7
  go_wp2_with fail
  refine SE.mono ?_
  rintro e w3 ⟨rfl, fl, F3⟩
  have st4 := (HEV.out w3 F3).states
  have HFN : Hid (Fr no w w3) := by
    have hx := HX.out
    have hs := HF1.out.size
    refine (HF1.out.new HF2.out (fun _ _ f => f)).new F3 (fun i hi t => ?_)
    rcases t with e | e | e <;> omega
  have HFL : Hid _ := fl
  clear SE F3 fl
  generalize hcl : cd.length = n at *
  by_cases he : err = 0
  · subst he
    go_wp2_with fail
    go_ret2
    exact ⟨S, C, c, _, rfl, ⟨rfl, HFL.out trivial⟩, HFN.out⟩
  · go_wp2_with fail
    go_ret2
    exact ⟨S, C, c, _, rfl, fun h => absurd h he, fun _ => rfl, HFN.out⟩
end Go.Proofs.YtpfkigoffllieaaGreatDoor

/- A program's class by its name. -/
namespace Go.Proofs.YtpfkigoffllieaaGreatDoor
open Go.ChangeShapes Go.WideShapes Go.ChangeAt Go.RowKit
open H (ky Owns MapOf ix NewV)

theorem results_21 (w : World) (r : Nat) (x0 x1 x2 x3 x4 y : Value) (h : w.heap[r]? = some (.cells #[x0, x1, x2, x3, x4] 68 (0, 0))) (tmps : Array Value) (h2 : tmps.getD 4 undef = .pointer (some ⟨r, 0, none⟩)) (h3 : tmps.getD 5 undef = y) :
    (results Tryz.f30 tmps).run Tryz.prog w = .ok (.tuple #[.agg #[x0, x1, x2, x3, x4], y]) w := by
  have hl : (loadVar 68 ⟨r, 0, none⟩).run Tryz.prog w = .ok (.agg #[x0, x1, x2, x3, x4]) w := run_loadVar_row (P := Tryz.prog) w r 68 68 #[x0, x1, x2, x3, x4] (0, 0) _ h Tryz.underlying68 rfl (by kernel_rfl)
  have h2' : tmps[4]?.getD undef = .pointer (some ⟨r, 0, none⟩) := by simpa using h2
  have h3' : tmps[5]?.getD undef = y := by simpa using h3
  simp [results, asAddr, h2', h3', hl]

set_option maxRecDepth 100000 in
set_option maxHeartbeats 4000000 in
theorem class_any (w : World) (p : Nat) (Cs : List Cl) (A : List Nat) (h : Prg w p Cs A) (hsm : ∀ c ∈ Cs, SmallC c) (s : ByteArray) (hs : s.size ≤ 1099511627776) (i : Nat) (hi : ix s (namesOf Cs) = some i) :
    Calls Tryz.prog 30 #[.pointer (some ⟨p, 0, none⟩), .string s] w fun e w' => ∃ k, e = .returned (.tuple #[ksV k, .bool true]) ∧ ClOwn w' k (clsAt Cs i) ∧ Fr no w w' := by
  obtain ⟨w0, hp, m, v, X, ch, h, -⟩ := h.ex
  rw [← layAll_names Cs A] at hi
  have hil : i < (layAll Cs A).length := by have := H.ix_lt hi; simpa [namesY] using this
  obtain ⟨x, y, hx, hy, L⟩ := h.get hil
  have hcl : i < Cs.length := by simpa [layAll] using hil
  have hyc : y.c = clsAt Cs i := by
    rw [layAll_get hcl] at hy
    simp only [Option.some.injEq] at hy
    rw [← hy]
    exact lay_cls Cs A i
  have hsc : SmallC (clsAt Cs i) := hsm _ (by unfold clsAt; rw [List.getD_eq_getElem?_getD, List.getElem?_eq_getElem hcl]; exact List.getElem_mem hcl)
  have G0 : Fr no w (w.alloc (.cells #[.string ⟨#[]⟩, .string ⟨#[]⟩, .slice none 0 0, .slice none 0 0, .slice none 0 0] 68)) := (Fr.refl no w).alloc _ _
  have E0 : (w.alloc (.cells #[.string ⟨#[]⟩, .string ⟨#[]⟩, .slice none 0 0, .slice none 0 0, .slice none 0 0] 68)).heap[w.heap.size]? = some (.cells #[.string ⟨#[]⟩, .string ⟨#[]⟩, .slice none 0 0, .slice none 0 0, .slice none 0 0] 68 (0, 0)) := heap_alloc_new w _
  have P0 := h.keep G0
  obtain ⟨c, hl, -, hc⟩ := P0.look s hs
  obtain rfl := hc i hi
  rw [hi] at hl
  simp only [Option.isSome_some] at hl
  obtain ⟨qv, cv, rfl⟩ := h.form
  obtain ⟨b0, b1, b2⟩ := cells3 P0.pb
  obtain ⟨g, rfl⟩ := P0.row.some_of (fun e => by rw [e] at hx; simp at hx)
  have d : ∀ j u, (lkC x)[j]? = some u → _ := fun j u hj => P0.row.cell okLk hx hj
  have d0 := d 0 _ rfl
  have d1 := d 1 _ rfl
  have d2 := d 2 _ rfl
  have d3 := d 3 _ rfl
  have d4 := d 4 _ rfl
  simp only [elLk, Nat.add_zero] at d0 d1 d2 d3 d4
  have hil' : (i : Int) < ((layAll Cs A).length : Int) := by omega
  have CC := copyClass_any (w.alloc (.cells #[.string ⟨#[]⟩, .string ⟨#[]⟩, .slice none 0 0, .slice none 0 0, .slice none 0 0] 68)) x.k (clsAt Cs i) (hyc ▸ (L.k.keep G0).at') hsc
  have HZ : Hid (_ ∧ _) := ⟨E0, G0⟩
  clear h hs hi L hc d P0 E0 G0 hy hil hx hyc hsc hcl hsm
  unfold ksV at CC ⊢
  generalize hW : w.alloc (.cells #[.string ⟨#[]⟩, .string ⟨#[]⟩, .slice none 0 0, .slice none 0 0, .slice none 0 0] 68) = W at *
  generalize (layAll Cs A).length = n at *
  go_enter Tryz.func30, Tryz.ntmps30
  go_wp2_with fail
  refine CC.mono ?_
  rintro e w2 ⟨⟨kn, ks, ⟨kpa, kpn, kpc⟩, ⟨kfa, kfn, kfc⟩, ⟨kma, kmn, kmc⟩⟩, rfl, oc, F2⟩
  have E2 := F2.heap HZ.out.1 (fun f => f)
  have HC5 : Hid (_) := chain5 E2 (.string kn) (.string ks) (.slice kpa kpn kpc) (.slice kfa kfn kfc) (.slice kma kmn kmc)
  have HF5 : Hid (_) := frc5 w2 w.heap.size (.string kn) (.string ks) (.slice kpa kpn kpc) (.slice kfa kfn kfc) (.slice kma kmn kmc)
  obtain ⟨y0, y1, y2, y3, y4⟩ := box5 E2
  have fz := fun o => frozen_at (o := o) E2
  have HE2 : Hid _ := E2
  have HO : Hid (_ ∧ _) := ⟨oc, HZ.out.2.new F2 (fun _ _ f => f)⟩
  clear E2 oc F2 CC b0 b1 b2 d0 d1 d2 d3 d4 hl
  go_wp2_with fail
  refine bodyPost_ret (results_21 _ w.heap.size (.string kn) (.string ks) (.slice kpa kpn kpc) (.slice kfa kfn kfc) (.slice kma kmn kmc) _ HC5.out _ rfl rfl) rfl ?_
  obtain ⟨o2, f2⟩ := HO.out
  refine ⟨⟨kn, ks, ⟨kpa, kpn, kpc⟩, ⟨kfa, kfn, kfc⟩, ⟨kma, kmn, kmc⟩⟩, by kernel_rfl, o2.kept HF5.out (fun k hk cur e he => ?_), f2.new HF5.out (fun i hi e => by omega)⟩
  rw [hk, HE2.out] at he
  simp only [Option.some.injEq, Obj.cells.injEq] at he
  obtain ⟨-, rfl, -⟩ := he
  decide
end Go.Proofs.YtpfkigoffllieaaGreatDoor

/- The first method, found by its name. -/
namespace Go.Proofs.YtpfkigoffllieaaGreatDoor
open Go.ChangeShapes Go.WideShapes Go.ChangeAt Go.RowKit
open H (ky Owns MapOf ix NewV)

set_option maxRecDepth 100000 in
set_option maxHeartbeats 2000000 in
theorem nameIs_any (w : World) (x : Ms) (q : Nat) (h : w.cell? ⟨q, 0, none⟩ = some (.string x.name)) :
    Calls Tryz.prog 32 #[.agg #[.string x.name, .slice x.p.a x.p.n x.p.c, .int .i64 x.ret.k, .string x.ret.c, .int .i64 x.lo, .int .i64 x.st, .slice x.c.a x.c.n x.c.c, .slice x.h.a x.h.n x.h.c], .pointer (some ⟨q, 0, none⟩)] w fun e w' => e = .returned (.bool true) ∧ Fr no w w' := by
  have G : Fr no w (w.alloc (.cells #[.string x.name, .slice x.p.a x.p.n x.p.c, .int .i64 x.ret.k, .string x.ret.c, .int .i64 x.lo, .int .i64 x.st, .slice x.c.a x.c.n x.c.c, .slice x.h.a x.h.n x.h.c] 64)) := (Fr.refl no w).alloc _ _
  have hq := G.cell h (fun f => f)
  have e0 : (w.alloc (.cells #[.string x.name, .slice x.p.a x.p.n x.p.c, .int .i64 x.ret.k, .string x.ret.c, .int .i64 x.lo, .int .i64 x.st, .slice x.c.a x.c.n x.c.c, .slice x.h.a x.h.n x.h.c] 64)).cell? ⟨w.heap.size, 0, none⟩ = some (.string x.name) := cell_at (o := 0) (heap_alloc_new w _)
  generalize hW : w.alloc (.cells #[.string x.name, .slice x.p.a x.p.n x.p.c, .int .i64 x.ret.k, .string x.ret.c, .int .i64 x.lo, .int .i64 x.st, .slice x.c.a x.c.n x.c.c, .slice x.h.a x.h.n x.h.c] 64) = W at *
  clear h
  have HG : Hid _ := G
  clear G
  go_enter Tryz.func32, Tryz.ntmps32
  go_wp2_with fail
  go_ret
  exact ⟨rfl, HG.out⟩

set_option maxRecDepth 100000 in
set_option maxHeartbeats 2000000 in
theorem findFirst_any (w : World) (v : Value) (x : Ms) (r : List Ms) (h : SlG elMs w v (x :: r)) (q : Nat) (hq : w.cell? ⟨q, 0, none⟩ = some (.string x.name)) :
    Calls Tryz.prog 31 #[v, .func (.func 32) #[] #[.pointer (some ⟨q, 0, none⟩)]] w fun e w' => e = .returned (.int .i64 0) ∧ Fr no w w' := by
  obtain ⟨ad, cp, rfl, hcap, hmx, hit⟩ := h
  obtain ⟨b, off, rfl, hc⟩ := hit 0 x rfl
  have c0 : w.cell? ⟨b, off, none⟩ = some (.string x.name) := by simpa using hc 0 _ rfl
  have c1 : w.cell? ⟨b, off + 1, none⟩ = some (.slice x.p.a x.p.n x.p.c) := by simpa using hc 1 _ rfl
  have c2 : w.cell? ⟨b, off + 2, none⟩ = some (.int .i64 x.ret.k) := by simpa using hc 2 _ rfl
  have c3 : w.cell? ⟨b, off + 3, none⟩ = some (.string x.ret.c) := by simpa using hc 3 _ rfl
  have c4 : w.cell? ⟨b, off + 4, none⟩ = some (.int .i64 x.lo) := by simpa using hc 4 _ rfl
  have c5 : w.cell? ⟨b, off + 5, none⟩ = some (.int .i64 x.st) := by simpa using hc 5 _ rfl
  have c6 : w.cell? ⟨b, off + 6, none⟩ = some (.slice x.c.a x.c.n x.c.c) := by simpa using hc 6 _ rfl
  have c7 : w.cell? ⟨b, off + 7, none⟩ = some (.slice x.h.a x.h.n x.h.c) := by simpa using hc 7 _ rfl
  have E := nameIs_any w x q hq
  generalize hl : (x :: r).length = n at *
  have hn0 : 0 < n := by rw [← hl]; simp
  have hni : (0 : Int) < (n : Int) := by omega
  clear hc hit hq hcap hmx hl
  go_enter Tryz.func31, Tryz.ntmps31
  go_wp2_with fail
  go_loopw [8] (fun i wr => i = .int .i64 0 ∧ wr = w) (fun _ _ => 0)
  case atStart => exact ⟨rfl, rfl⟩
  case round =>
    obtain ⟨rfl, rfl⟩ := hrel
    go_wp2_with fail
    refine E.mono ?_
    rintro e w2 ⟨rfl, f2⟩
    go_wp2_with fail
    go_ret
    exact ⟨rfl, f2⟩
end Go.Proofs.YtpfkigoffllieaaGreatDoor
