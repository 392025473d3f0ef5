/- The slot of a field. -/
import Derived.Test.YtalgjpmaafooeaaGreatDoorKai
import Derived.Test.YtalgjpmaafooeaaGreatDoorKaf
import Derived.Test.YtalgjpmaafooeaaGreatDoorKah
namespace Go.Proofs.YtalgjpmaafooeaaGreatDoor
open Go.ChangeShapes Go.WideShapes Go.ChangeAt Go.RowKit
open H (ky Owns MapOf ix up nameAt anc Fine obj fault)
def FmOk (y : Li) : Prop := ∀ n k, y.fm n = some k → k < y.slots.length
theorem fmOk_0 (c : Cl) : FmOk (li0 c) := fun n k h => by simp [li0] at h
theorem fmOk_f {y : Li} (h : FmOk y) (cn : ByteArray) (f : Fd) : FmOk (takeF cn y f) := fun n k hk => by
 simp only [takeF] at hk ⊢
 split at hk
 · simp only [Option.some.injEq] at hk
   simp
   omega
 · have := h n k hk
   simp
   omega
theorem fmOk_fs (cn : ByteArray) : ∀ (l : List Fd) {y : Li}, FmOk y → FmOk (takeFs cn y l)
 | [], _, h => h
 | f :: r, _, h => fmOk_fs cn r (fmOk_f h cn f)
theorem fmOk_ms (num : Nat) : ∀ (l : List Mt) (a : Nat) {y : Li}, FmOk y → FmOk (takeMs num a y l)
 | [], _, _, h => h
 | _ :: r, a, _, h => fmOk_ms num r (a + 1) h
theorem fmOk_n (Cs : List Cl) : ∀ (l : List Nat) {y : Li}, FmOk y → FmOk (layN Cs y l)
 | [], _, h => h
 | _ :: r, _, h => fmOk_n Cs r (fmOk_ms _ _ _ (fmOk_fs _ _ h))
theorem fmOk_lay (Cs : List Cl) (A : List Nat) (i : Nat) : FmOk (lay Cs A i) := fmOk_n _ _ (fmOk_0 _)
def zSlt : Slt := ⟨⟨#[]⟩, ⟨⟨#[]⟩, ⟨0, ⟨#[]⟩⟩, false⟩, 0⟩
theorem results_9 (w : World) (r : Nat) (x0 x1 x2 x3 x4 x5 y : Value) (h : w.heap[r]? = some (.cells #[x0, x1, x2, x3, x4, x5] 188 (0, 0))) (tmps : Array Value) (h2 : tmps.getD 6 undef = .pointer (some ⟨r, 0, none⟩)) (h3 : tmps.getD 7 undef = y) :
 (results Tryz.f127 tmps).run Tryz.prog w = .ok (.tuple #[.agg #[x0, x1, x2, x3, x4, x5], y]) w := by
 have hl : (loadVar 188 ⟨r, 0, none⟩).run Tryz.prog w = .ok (.agg #[x0, x1, x2, x3, x4, x5]) w := run_loadVar_row (P := Tryz.prog) w r 188 188 #[x0, x1, x2, x3, x4, x5] (0, 0) _ h Tryz.underlying188 rfl (by kernel_rfl)
 have h2' : tmps[6]?.getD undef = .pointer (some ⟨r, 0, none⟩) := by simpa using h2
 have h3' : tmps[7]?.getD undef = y := by simpa using h3
 simp [results, asAddr, h2', h3', hl]
def slV (t : Slt) : Value := .agg #[.string t.cls, .string t.f.name, .int .i64 t.f.ty.k, .string t.f.ty.c, .bool t.f.vol, .int .i64 t.at']
theorem box6 {w : World} {q : Nat} {a0 a1 a2 a3 a4 a5 : Value} {t : TypeId} (h : w.heap[q]? = some (.cells #[a0, a1, a2, a3, a4, a5] t (0, 0))) :
 w.cell? ⟨q, 0, none⟩ = some a0 ∧ w.cell? ⟨q, 1, none⟩ = some a1 ∧ w.cell? ⟨q, 2, none⟩ = some a2 ∧ w.cell? ⟨q, 3, none⟩ = some a3 ∧ w.cell? ⟨q, 4, none⟩ = some a4 ∧ w.cell? ⟨q, 5, none⟩ = some a5 := by
 refine ⟨?_, ?_, ?_, ?_, ?_, ?_⟩ <;> simp [World.cell?, h]
set_option maxRecDepth 100000 in
set_option maxHeartbeats 2000000 in
theorem field_any (w : World) (p : Nat) (Cs : List Cl) (A : List Nat) (h : Prg w p Cs A) (cl s : ByteArray) (hcl : cl.size ≤ 1099511627776) (hs : s.size ≤ 1099511627776) :
 Calls Tryz.prog 127 #[.pointer (some ⟨p, 0, none⟩), .string cl, .string s] w fun e w' => ∃ t, e = .returned (.tuple #[slV t, .bool (fieldOf (namesOf Cs) (layAll Cs A) cl s).isSome]) ∧ (∀ t', fieldOf (namesOf Cs) (layAll Cs A) cl s = some t' → t = t') ∧ (fieldOf (namesOf Cs) (layAll Cs A) cl s = none → t = zSlt) ∧ Fr no w w' := by
 obtain ⟨w0, hp, m, v, X, ch, P, -⟩ := h.ex
 have G0 : Fr no w (w.alloc (.cells #[.string ⟨#[]⟩, .string ⟨#[]⟩, .int .i64 0, .string ⟨#[]⟩, .bool false, .int .i64 0] 188)) := (Fr.refl no w).alloc _ _
 have E0 : (w.alloc (.cells #[.string ⟨#[]⟩, .string ⟨#[]⟩, .int .i64 0, .string ⟨#[]⟩, .bool false, .int .i64 0] 188)).heap[w.heap.size]? = some (.cells #[.string ⟨#[]⟩, .string ⟨#[]⟩, .int .i64 0, .string ⟨#[]⟩, .bool false, .int .i64 0] 188 (0, 0)) := heap_alloc_new w _
 have P0 := P.keep G0
 obtain ⟨c, hl, -, hc⟩ := P0.look cl hcl
 rw [layAll_names] at hl hc
 obtain ⟨qv, cv, rfl⟩ := P.form
 rw [layAll_len] at P0 P
 obtain ⟨-, b1, b2⟩ := cells3 P0.pb
 have HE : Hid (_ ∧ _) := ⟨E0, G0⟩
 unfold slV
 cases hi : ix cl (namesOf Cs) with
 | none =>
  have HN : Hid (fieldOf (namesOf Cs) (layAll Cs A) cl s = none) := by show _ = _; unfold fieldOf; rw [hi]
  rw [hi] at hl
  simp only [Option.isSome_none] at hl
  obtain ⟨z0, z1, z2, z3, z4, z5⟩ := box6 E0
  have fz := fun o => frozen_at (o := o) E0
  clear P P0 hc hi h E0 G0
  have HC : Hid (_) := chain6 HE.out.1 (.string ⟨#[]⟩) (.string ⟨#[]⟩) (.int .i64 0) (.string ⟨#[]⟩) (.bool false) (.int .i64 0)
  have HFC : Hid (_) := frc6 (w.alloc (.cells #[.string ⟨#[]⟩, .string ⟨#[]⟩, .int .i64 0, .string ⟨#[]⟩, .bool false, .int .i64 0] 188)) w.heap.size (.string ⟨#[]⟩) (.string ⟨#[]⟩) (.int .i64 0) (.string ⟨#[]⟩) (.bool false) (.int .i64 0)
  generalize hW : w.alloc (.cells #[.string ⟨#[]⟩, .string ⟨#[]⟩, .int .i64 0, .string ⟨#[]⟩, .bool false, .int .i64 0] 188) = W at *
  go_enter Tryz.func127, Tryz.ntmps127
  go_wp2_with fail
  generalize hV : (((((W.setCell ⟨w.heap.size, 0, none⟩ (.string ⟨#[]⟩)).setCell ⟨w.heap.size, 1, none⟩ (.string ⟨#[]⟩)).setCell ⟨w.heap.size, 2, none⟩ (.int .i64 0)).setCell ⟨w.heap.size, 3, none⟩ (.string ⟨#[]⟩)).setCell ⟨w.heap.size, 4, none⟩ (.bool false)).setCell ⟨w.heap.size, 5, none⟩ (.int .i64 0) = V at *
  refine bodyPost_ret (results_9 V w.heap.size (.string ⟨#[]⟩) (.string ⟨#[]⟩) (.int .i64 0) (.string ⟨#[]⟩) (.bool false) (.int .i64 0) (.bool false) HC.out _ rfl rfl) rfl ?_
  rw [HN.out]
  exact ⟨zSlt, rfl, fun t ht => by simp at ht, fun _ => rfl, HE.out.2.new HFC.out (fun i hi e => by omega)⟩
 | some i =>
  have hil : i < Cs.length := by have := H.ix_lt hi; simpa [namesOf] using this
  obtain ⟨x, y, hx, hy, L⟩ := P0.get (i := i) (by rw [layAll_len]; exact hil)
  obtain ⟨xk, ⟨sa, sn, sc⟩, wd, xf, xm⟩ := x
  have hyl : y = lay Cs A i := by
   rw [layAll_get hil] at hy
   simpa using hy.symm
  obtain rfl := hc i hi
  rw [hi] at hl
  simp only [Option.isSome_some] at hl
  obtain ⟨g, rfl⟩ := P0.row.some_of (fun e => by rw [e] at hx; simp at hx)
  have d : ∀ j u, (lkC ⟨xk, ⟨sa, sn, sc⟩, wd, xf, xm⟩)[j]? = some u → _ := fun j u hj => P0.row.cell okLk hx hj
  have d0 := d 0 _ rfl
  have d1 := d 1 _ rfl
  have d2 := d 2 _ rfl
  have d3 := d 3 _ rfl
  have d4 := d 4 _ rfl
  have d5 := d 5 _ rfl
  have d6 := d 6 _ rfl
  have d7 := d 7 _ rfl
  have d8 := d 8 _ rfl
  simp only [elLk, Nat.add_zero] at d0 d1 d2 d3 d4 d5 d6 d7 d8
  have hii : (i : Int) < (Cs.length : Int) := by omega
  have G2 : Fr no (w.alloc (.cells #[.string ⟨#[]⟩, .string ⟨#[]⟩, .int .i64 0, .string ⟨#[]⟩, .bool false, .int .i64 0] 188)) ((w.alloc (.cells #[.string ⟨#[]⟩, .string ⟨#[]⟩, .int .i64 0, .string ⟨#[]⟩, .bool false, .int .i64 0] 188)).alloc (.cells #[.string xk.name, .string xk.super, .slice xk.p.a xk.p.n xk.p.c, .slice xk.f.a xk.f.n xk.f.c, .slice xk.m.a xk.m.n xk.m.c, .slice sa sn sc, .int .i64 wd, .map (some xf), .map (some xm)] 128)) := (Fr.refl no _).alloc _ _
  have E2 := G2.heap E0 (fun f => f)
  have B2 : ((w.alloc (.cells #[.string ⟨#[]⟩, .string ⟨#[]⟩, .int .i64 0, .string ⟨#[]⟩, .bool false, .int .i64 0] 188)).alloc (.cells #[.string xk.name, .string xk.super, .slice xk.p.a xk.p.n xk.p.c, .slice xk.f.a xk.f.n xk.f.c, .slice xk.m.a xk.m.n xk.m.c, .slice sa sn sc, .int .i64 wd, .map (some xf), .map (some xm)] 128)).heap[(w.alloc (.cells #[.string ⟨#[]⟩, .string ⟨#[]⟩, .int .i64 0, .string ⟨#[]⟩, .bool false, .int .i64 0] 188)).heap.size]? = some (.cells #[.string xk.name, .string xk.super, .slice xk.p.a xk.p.n xk.p.c, .slice xk.f.a xk.f.n xk.f.c, .slice xk.m.a xk.m.n xk.m.c, .slice sa sn sc, .int .i64 wd, .map (some xf), .map (some xm)] 128 (0, 0)) := heap_alloc_new _ _
  have L2 := L.keep G2
  obtain ⟨D, q1, q2⟩ := L2.f
  obtain ⟨a, hl2, -, ha⟩ := lookI q1 q2 s hs
  have y3 := cell_at (o := 7) B2
  have y1 := cell_at (o := 5) B2
  obtain ⟨z0, z1, z2, z3, z4, z5⟩ := box6 E2
  have fz := fun o => frozen_at (o := o) E2
  simp only [List.getElem?_toArray, List.getElem?_cons_zero, List.getElem?_cons_succ] at y1 y3
  have sz : (w.alloc (.cells #[.string ⟨#[]⟩, .string ⟨#[]⟩, .int .i64 0, .string ⟨#[]⟩, .bool false, .int .i64 0] 188)).heap.size = w.heap.size + 1 := by simp
  rw [sz] at y1 y3
  have HG2 : Hid (_) := G2
  have HE2 : Hid (_) := E2
  cases hfm : y.fm s with
  | none =>
   have HN : Hid (fieldOf (namesOf Cs) (layAll Cs A) cl s = none) := by show _ = _; unfold fieldOf; rw [hi]; simp only [hy, hfm]
   rw [hfm] at hl2
   simp only [Option.isSome_none] at hl2
   clear P P0 hc hi h L L2 q1 q2 ha hy hx hil hyl hfm d E0 G0 G2 E2 B2
   have HC : Hid (_) := chain6 HE2.out (.string ⟨#[]⟩) (.string ⟨#[]⟩) (.int .i64 0) (.string ⟨#[]⟩) (.bool false) (.int .i64 0)
   have HFC : Hid (_) := frc6 ((w.alloc (.cells #[.string ⟨#[]⟩, .string ⟨#[]⟩, .int .i64 0, .string ⟨#[]⟩, .bool false, .int .i64 0] 188)).alloc (.cells #[.string xk.name, .string xk.super, .slice xk.p.a xk.p.n xk.p.c, .slice xk.f.a xk.f.n xk.f.c, .slice xk.m.a xk.m.n xk.m.c, .slice sa sn sc, .int .i64 wd, .map (some xf), .map (some xm)] 128)) w.heap.size (.string ⟨#[]⟩) (.string ⟨#[]⟩) (.int .i64 0) (.string ⟨#[]⟩) (.bool false) (.int .i64 0)
   generalize hW : w.alloc (.cells #[.string ⟨#[]⟩, .string ⟨#[]⟩, .int .i64 0, .string ⟨#[]⟩, .bool false, .int .i64 0] 188) = W at *
   generalize hW2 : W.alloc (.cells #[.string xk.name, .string xk.super, .slice xk.p.a xk.p.n xk.p.c, .slice xk.f.a xk.f.n xk.f.c, .slice xk.m.a xk.m.n xk.m.c, .slice sa sn sc, .int .i64 wd, .map (some xf), .map (some xm)] 128) = W2 at *
   generalize hcl2 : Cs.length = n at *
   go_enter Tryz.func127, Tryz.ntmps127
   go_wp2_with fail
   generalize hV : (((((W2.setCell ⟨w.heap.size, 0, none⟩ (.string ⟨#[]⟩)).setCell ⟨w.heap.size, 1, none⟩ (.string ⟨#[]⟩)).setCell ⟨w.heap.size, 2, none⟩ (.int .i64 0)).setCell ⟨w.heap.size, 3, none⟩ (.string ⟨#[]⟩)).setCell ⟨w.heap.size, 4, none⟩ (.bool false)).setCell ⟨w.heap.size, 5, none⟩ (.int .i64 0) = V at *
   refine bodyPost_ret (results_9 V w.heap.size (.string ⟨#[]⟩) (.string ⟨#[]⟩) (.int .i64 0) (.string ⟨#[]⟩) (.bool false) (.int .i64 0) (.bool false) HC.out _ rfl rfl) rfl ?_
   rw [HN.out]
   exact ⟨zSlt, rfl, fun t ht => by simp at ht, fun _ => rfl, (HE.out.2.new HG2.out (fun _ _ f => f)).new HFC.out (fun i hi e => by omega)⟩
  | some k =>
   have hkl : k < y.slots.length := by rw [hyl] at hfm ⊢; exact fmOk_lay Cs A i s k hfm
   obtain ⟨t, ht⟩ : ∃ t, y.slots[k]? = some t := ⟨_, List.getElem?_eq_getElem hkl⟩
   have HN : Hid (fieldOf (namesOf Cs) (layAll Cs A) cl s = some t) := by show _ = _; unfold fieldOf; rw [hi]; simp only [hy, hfm]; exact ht
   rw [hfm] at hl2
   simp only [Option.isSome_some] at hl2
   obtain rfl := ha k hfm
   have OS := L2.s
   obtain ⟨qs, cs', es⟩ := OS.form
   simp only [Value.slice.injEq] at es
   obtain ⟨-, es2, -⟩ := es
   subst es2
   obtain ⟨gs, hgs⟩ := OS.some_of (fun e => by rw [e] at ht; simp at ht)
   simp only [] at hgs OS
   subst hgs
   have dd : ∀ j u, (slC t)[j]? = some u → _ := fun j u hj => OS.cell okSt ht hj
   have t0 := dd 0 _ rfl
   have t1 := dd 1 _ rfl
   have t2 := dd 2 _ rfl
   have t3 := dd 3 _ rfl
   have t4 := dd 4 _ rfl
   have t5 := dd 5 _ rfl
   simp only [elSt, Nat.add_zero] at t0 t1 t2 t3 t4 t5
   have hki : (k : Int) < (y.slots.length : Int) := by omega
   clear P P0 hc hi h L L2 q1 q2 ha hy hx hil hyl hfm d E0 G0 G2 E2 B2 OS dd ht
   generalize hsl : y.slots.length = sl at *
   have HC : Hid (_) := chain6 HE2.out (.string t.cls) (.string t.f.name) (.int .i64 t.f.ty.k) (.string t.f.ty.c) (.bool t.f.vol) (.int .i64 t.at')
   have HFC : Hid (_) := frc6 ((w.alloc (.cells #[.string ⟨#[]⟩, .string ⟨#[]⟩, .int .i64 0, .string ⟨#[]⟩, .bool false, .int .i64 0] 188)).alloc (.cells #[.string xk.name, .string xk.super, .slice xk.p.a xk.p.n xk.p.c, .slice xk.f.a xk.f.n xk.f.c, .slice xk.m.a xk.m.n xk.m.c, .slice (some ⟨gs, 0, none⟩) sl sc, .int .i64 wd, .map (some xf), .map (some xm)] 128)) w.heap.size (.string t.cls) (.string t.f.name) (.int .i64 t.f.ty.k) (.string t.f.ty.c) (.bool t.f.vol) (.int .i64 t.at')
   generalize hW : w.alloc (.cells #[.string ⟨#[]⟩, .string ⟨#[]⟩, .int .i64 0, .string ⟨#[]⟩, .bool false, .int .i64 0] 188) = W at *
   generalize hW2 : W.alloc (.cells #[.string xk.name, .string xk.super, .slice xk.p.a xk.p.n xk.p.c, .slice xk.f.a xk.f.n xk.f.c, .slice xk.m.a xk.m.n xk.m.c, .slice (some ⟨gs, 0, none⟩) sl sc, .int .i64 wd, .map (some xf), .map (some xm)] 128) = W2 at *
   generalize hcl2 : Cs.length = n at *
   go_enter Tryz.func127, Tryz.ntmps127
   go_wp2_with fail
   generalize hV : (((((W2.setCell ⟨w.heap.size, 0, none⟩ (.string t.cls)).setCell ⟨w.heap.size, 1, none⟩ (.string t.f.name)).setCell ⟨w.heap.size, 2, none⟩ (.int .i64 t.f.ty.k)).setCell ⟨w.heap.size, 3, none⟩ (.string t.f.ty.c)).setCell ⟨w.heap.size, 4, none⟩ (.bool t.f.vol)).setCell ⟨w.heap.size, 5, none⟩ (.int .i64 t.at') = V at *
   refine bodyPost_ret (results_9 V w.heap.size (.string t.cls) (.string t.f.name) (.int .i64 t.f.ty.k) (.string t.f.ty.c) (.bool t.f.vol) (.int .i64 t.at') (.bool true) HC.out _ rfl rfl) rfl ?_
   rw [HN.out]
   exact ⟨t, rfl, fun t' ht' => by simpa using ht', fun e => by simp at e, (HE.out.2.new HG2.out (fun _ _ f => f)).new HFC.out (fun i hi e => by omega)⟩
end Go.Proofs.YtalgjpmaafooeaaGreatDoor
/- Whether what a constant names is there. -/
namespace Go.Proofs.YtalgjpmaafooeaaGreatDoor
open Go.ChangeShapes Go.WideShapes Go.ChangeAt Go.RowKit
open H (ky Owns MapOf ix up nameAt anc Fine obj fault)
def memB (N : List ByteArray) (L : List Li) (x : Cs) : Bool := if x.k = 4 then (fieldOf N L x.c x.m).isSome else if x.k = 5 then (findOf N L x.c x.m).isSome else true
theorem constE_eq (N : List ByteArray) (L : List Li) (x : Cs) : constE N L x = if x.k = 1 ∨ x.k = 2 then 0 else if (ix x.c N).isSome = false then 70 else if memB N L x = true then 0 else 72 := by
 unfold constE memB
 by_cases h1 : x.k = 1 ∨ x.k = 2
 · rw [if_pos h1, if_pos h1]
 · rw [if_neg h1, if_neg h1]
   by_cases h2 : (ix x.c N).isSome = false
   · rw [if_pos h2, if_pos h2]
   · rw [if_neg h2, if_neg h2]
     by_cases h4 : x.k = 4
     · rw [if_pos h4, if_pos h4]
     · rw [if_neg h4, if_neg h4]
       by_cases h5 : x.k = 5
       · rw [if_pos h5, if_pos h5]
       · rw [if_neg h5, if_neg h5, if_pos rfl]
set_option maxRecDepth 100000 in
set_option maxHeartbeats 1000000 in
theorem hasMember_any (w : World) (p : Nat) (x : Cs) (hc : fitS x.c) (hm : fitS x.m) (Cs : List Cl) (A : List Nat) (h : Prg w p Cs A) :
 Calls Tryz.prog 113 #[.pointer (some ⟨p, 0, none⟩), .agg #[.int .i64 x.k, .int .i64 x.n, .complex .f64 x.re x.im, .string x.c, .string x.m]] w fun e w' => e = .returned (.bool (memB (namesOf Cs) (layAll Cs A) x)) ∧ Fr no w w' := by
 have G0 : Fr no w (w.alloc (.cells #[.int .i64 x.k, .int .i64 x.n, .complex .f64 x.re x.im, .string x.c, .string x.m] 35)) := (Fr.refl no w).alloc _ _
 have E0 : (w.alloc (.cells #[.int .i64 x.k, .int .i64 x.n, .complex .f64 x.re x.im, .string x.c, .string x.m] 35)).heap[w.heap.size]? = some (.cells #[.int .i64 x.k, .int .i64 x.n, .complex .f64 x.re x.im, .string x.c, .string x.m] 35 (0, 0)) := heap_alloc_new w _
 have FA := field_any _ p Cs A (h.keep G0) x.c x.m hc hm
 have FI := find_any _ p Cs A (h.keep G0) x.c x.m hc hm
 obtain ⟨a0, a1, a2, a3, a4⟩ := box5 E0
 have HG : Hid (_) := G0
 clear h G0 E0
 generalize hW : w.alloc (.cells #[.int .i64 x.k, .int .i64 x.n, .complex .f64 x.re x.im, .string x.c, .string x.m] 35) = W at *
 unfold memB
 generalize hfo : fieldOf (namesOf Cs) (layAll Cs A) x.c x.m = fo at *
 generalize hfi : findOf (namesOf Cs) (layAll Cs A) x.c x.m = fi at *
 by_cases h4 : x.k = 4
 · rw [if_pos h4]
   rw [h4] at a0
   generalize hb : fo.isSome = b at *
   have HB : Hid (fo.isSome = b) := hb
   clear h4 hb FI
   go_enter Tryz.func113, Tryz.ntmps113
   go_wp2_with fail
   refine FA.mono ?_
   rintro e w1 ⟨t, rfl, -, -, f1⟩
   unfold slV
   go_wp2_with fail
   go_ret
   exact ⟨rfl, HG.out.new f1 (fun _ _ f => f)⟩
 · rw [if_neg h4]
   have h4' : (x.k == 4) = false := by simpa using h4
   by_cases h5 : x.k = 5
   · rw [if_pos h5]
     rw [h5] at a0 h4'
     generalize hb : fi.isSome = b at *
     clear h4 h5 FA hb h4'
     go_enter Tryz.func113, Tryz.ntmps113
     go_wp2_with fail
     refine FI.mono ?_
     rintro e w1 ⟨a, b', rfl, -, f1⟩
     go_wp2_with fail
     go_ret
     exact ⟨rfl, HG.out.new f1 (fun _ _ f => f)⟩
   · rw [if_neg h5]
     have h5' : (x.k == 5) = false := by simpa using h5
     clear FA FI
     go_enter Tryz.func113, Tryz.ntmps113
     go_wp2_with fail
     go_ret
     exact ⟨rfl, HG.out⟩
set_option maxRecDepth 100000 in
set_option maxHeartbeats 1000000 in
theorem checkConstP_any (w : World) (p : Nat) (x : Cs) (hc : fitS x.c) (hm : fitS x.m) (Cs : List Cl) (A : List Nat) (h : Prg w p Cs A) :
 Calls Tryz.prog 91 #[.pointer (some ⟨p, 0, none⟩), .agg #[.int .i64 x.k, .int .i64 x.n, .complex .f64 x.re x.im, .string x.c, .string x.m]] w fun e w' => e = .returned (.int .i64 (constE (namesOf Cs) (layAll Cs A) x : Int)) ∧ Fr no w w' := by
 obtain ⟨hp, b0, hh⟩ := h.hier
 have G0 : Fr no w (w.alloc (.cells #[.int .i64 x.k, .int .i64 x.n, .complex .f64 x.re x.im, .string x.c, .string x.m] 35)) := (Fr.refl no w).alloc _ _
 have E0 : (w.alloc (.cells #[.int .i64 x.k, .int .i64 x.n, .complex .f64 x.re x.im, .string x.c, .string x.m] 35)).heap[w.heap.size]? = some (.cells #[.int .i64 x.k, .int .i64 x.n, .complex .f64 x.re x.im, .string x.c, .string x.m] 35 (0, 0)) := heap_alloc_new w _
 obtain ⟨a0, a1, a2, a3, a4⟩ := box5 E0
 have b0' := G0.cell b0 (fun f => f)
 have HM : Hid (∀ w', Fr no (w.alloc (.cells #[.int .i64 x.k, .int .i64 x.n, .complex .f64 x.re x.im, .string x.c, .string x.m] 35)) w' → Calls Tryz.prog 113 #[.pointer (some ⟨p, 0, none⟩), .agg #[.int .i64 x.k, .int .i64 x.n, .complex .f64 x.re x.im, .string x.c, .string x.m]] w' fun e w2 => e = .returned (.bool (memB (namesOf Cs) (layAll Cs A) x)) ∧ Fr no w' w2) := fun w' hf => hasMember_any w' p x hc hm Cs A ((h.keep G0).keep hf)
 have HA : Hid (∀ w', Fr no (w.alloc (.cells #[.int .i64 x.k, .int .i64 x.n, .complex .f64 x.re x.im, .string x.c, .string x.m] 35)) w' → Calls Tryz.prog 79 #[.pointer (some ⟨hp, 0, none⟩), .string x.c] w' fun e w2 => e = .returned (.bool (ix x.c (namesOf Cs)).isSome) ∧ w2 = w') := fun w' hf => by
  obtain ⟨ch, hb⟩ := hh w' (G0.new hf (fun _ _ f => f))
  exact H.has_any w' hp _ A hb x.c hc
 have HG : Hid (_ ∧ _) := ⟨G0, E0⟩
 clear h hh G0 E0 b0
 generalize hW : w.alloc (.cells #[.int .i64 x.k, .int .i64 x.n, .complex .f64 x.re x.im, .string x.c, .string x.m] 35) = W at *
 rw [constE_eq]
 generalize hmb : memB (namesOf Cs) (layAll Cs A) x = mb at *
 generalize his : (ix x.c (namesOf Cs)).isSome = is at *
 have KS : Hid (∀ w2, Fr no W w2 → w2.cell? ⟨w.heap.size, 3, none⟩ = some (.string x.c) ∧ w2.cell? ⟨p, 0, none⟩ = some (.pointer (some ⟨hp, 0, none⟩))) := fun w2 f2 => ⟨f2.cell a3 (fun f => f), f2.cell b0' (fun f => f)⟩
 by_cases h1 : x.k = 1
 · rw [if_pos (.inl h1)]
   rw [h1] at a0
   clear h1
   go_enter Tryz.func91, Tryz.ntmps91
   go_wp2_with fail
   go_ret
   exact ⟨rfl, HG.out.1⟩
 · have h1' : (x.k == 1) = false := by simpa using h1
   by_cases h2 : x.k = 2
   · rw [if_pos (.inr h2)]
     rw [h2] at a0 h1'
     clear h1 h2 h1'
     go_enter Tryz.func91, Tryz.ntmps91
     go_wp2_with fail
     go_ret
     exact ⟨rfl, HG.out.1⟩
   · have h2' : (x.k == 2) = false := by simpa using h2
     rw [if_neg (fun e => e.elim h1 h2)]
     cases is with
     | false =>
      rw [if_pos rfl]
      clear h1 h2
      go_enter Tryz.func91, Tryz.ntmps91
      go_wp2_with fail
      go_region_held3 (fun w2 => w2.cell? ⟨w.heap.size, 3, none⟩ = some (.string x.c) ∧ w2.cell? ⟨p, 0, none⟩ = some (.pointer (some ⟨hp, 0, none⟩))) (with_reducible (first | exact KS.out _ (Fr.refl _ W).drew | assumption)) (first | (go_at_call 79; refine (HA.out _ (Fr.refl no W).drew).mono ?_; rintro e w3 ⟨rfl, rfl⟩))
      go_wp2_with fail
      go_ret
      exact ⟨rfl, HG.out.1.drew⟩
     | true =>
      rw [if_neg (by simp)]
      clear h1 h2
      have hbx := HG.out.2
      have k0 : W.drew.heap[w.heap.size]? = some (.cells #[.int .i64 x.k, .int .i64 x.n, .complex .f64 x.re x.im, .string x.c, .string x.m] 35 (0, 0)) := hbx
      clear hbx
      cases mb with
      | true =>
       rw [if_pos rfl]
       go_enter Tryz.func91, Tryz.ntmps91
       go_wp2_with fail
       go_region_held3 (fun w2 => w2.cell? ⟨w.heap.size, 3, none⟩ = some (.string x.c) ∧ w2.cell? ⟨p, 0, none⟩ = some (.pointer (some ⟨hp, 0, none⟩))) (with_reducible (first | exact KS.out _ (Fr.refl _ W).drew | assumption)) (first | (go_at_call 79; refine (HA.out _ (Fr.refl no W).drew).mono ?_; rintro e w3 ⟨rfl, rfl⟩))
       go_wp2_with fail
       refine (HM.out _ (Fr.refl no W).drew).mono ?_
       rintro e w4 ⟨rfl, f4⟩
       go_wp2_with fail
       go_ret
       exact ⟨rfl, HG.out.1.drew.new f4 (fun _ _ f => f)⟩
      | false =>
       rw [if_neg (by simp)]
       go_enter Tryz.func91, Tryz.ntmps91
       go_wp2_with fail
       go_region_held3 (fun w2 => w2.cell? ⟨w.heap.size, 3, none⟩ = some (.string x.c) ∧ w2.cell? ⟨p, 0, none⟩ = some (.pointer (some ⟨hp, 0, none⟩))) (with_reducible (first | exact KS.out _ (Fr.refl _ W).drew | assumption)) (first | (go_at_call 79; refine (HA.out _ (Fr.refl no W).drew).mono ?_; rintro e w3 ⟨rfl, rfl⟩))
       go_wp2_with fail
       refine (HM.out _ (Fr.refl no W).drew).mono ?_
       rintro e w4 ⟨rfl, f4⟩
       go_wp2_with fail
       go_ret
       exact ⟨rfl, HG.out.1.drew.new f4 (fun _ _ f => f)⟩
end Go.Proofs.YtalgjpmaafooeaaGreatDoor
/- The first error of a list. -/
namespace Go.Proofs.YtalgjpmaafooeaaGreatDoor
open Go.ChangeShapes Go.WideShapes Go.ChangeAt Go.RowKit
theorem firstN_step (e : Nat → Nat) (k n : Nat) (h : k < n) : firstN e (List.range' k (n - k)) = if e k ≠ 0 then e k else firstN e (List.range' (k + 1) (n - (k + 1))) := by
 obtain ⟨d, hd⟩ : ∃ d, n - k = d + 1 := ⟨n - k - 1, by omega⟩
 rw [hd, show n - (k + 1) = d by omega, List.range'_succ]
 rfl
theorem firstN_end (e : Nat → Nat) (n : Nat) : firstN e (List.range' n (n - n)) = 0 := by rw [Nat.sub_self]; rfl
theorem firstN_list {α : Type} (f : α → Nat) (g : Nat → Nat) : ∀ (l : List α) (k : Nat), (∀ i x, l[i]? = some x → g (k + i) = f x) → firstN g (List.range' k l.length) = firstN f l
 | [], _, _ => rfl
 | x :: l, k, h => by
  rw [List.length_cons, List.range'_succ]
  unfold firstN
  rw [show g k = f x from h 0 x rfl, firstN_list f g l (k + 1) (fun i y hy => by rw [show k + 1 + i = k + (i + 1) by omega]; exact h (i + 1) y (by simpa using hy))]
def FirstKsC (w0 : World) (v fv : Value) (e : Nat → Nat) (n : Nat) (a : Act) (w : World) : Prop :=
 ∃ (k : Nat) (u2 u3 u4 u5 u6 u7 u8 u9 u10 u11 u12 u13 u14 u15 u16 u17 u18 u19 u20 u21 : Value), a = { tmps := #[v, fv, u2, u3, u4, u5, u6, u7, u8, u9, u10, u11, u12, u13, u14, u15, u16, u17, u18, u19, u20, u21], defers := [] } ∧ u5 = .int .i64 (k : Int) ∧ Fr no w0 w ∧ k ≤ n ∧ firstN e (List.range' k (n - k)) = firstN e (List.range' 0 n)
set_option maxRecDepth 100000 in
set_option maxHeartbeats 2000000 in
theorem firstKsC_any (w : World) (v : Value) (l : List Ks) (h : SlG elKs w v l) (e : Nat → Nat) (ASK : ∀ (w' : World) (k : Nat) (x : Ks), Fr no w w' → l[k]? = some x → Calls Tryz.prog 20 #[.agg #[.string x.name, .string x.super, .slice x.p.a x.p.n x.p.c, .slice x.f.a x.f.n x.f.c, .slice x.m.a x.m.n x.m.c]] w' fun r w2 => r = .returned (.int .i64 (e k : Int)) ∧ Fr no w' w2) :
 Calls Tryz.prog 19 #[v, .func (.func 20) #[] #[]] w fun r w' => r = .returned (.int .i64 (firstN e (List.range' 0 l.length) : Int)) ∧ Fr no w w' := by
 obtain ⟨ad, cp, rfl, hcap, hmx, hit⟩ := h
 unfold maxLen at hmx
 have HI : Hid (∀ (i : Nat) (x : Ks), l[i]? = some x → ∃ b off, ad = some ⟨b, off, none⟩ ∧ ∀ (j : Nat) (u : Value), (elKs.f x)[j]? = some u → w.cell? ⟨b, off + i * 5 + j, none⟩ = some u) := hit
 have HASK : Hid (_) := ASK
 have HL : Hid (∀ k, k < l.length → ∃ x, l[k]? = some x) := fun k hk => ⟨_, List.getElem?_eq_getElem hk⟩
 clear hit ASK
 generalize hn : l.length = n at *
 go_enter Tryz.func19, Tryz.ntmps19
 go_wp2_with fail
 refine wp_label_one 0 (FirstKsC w (.slice ad n cp) (.func (.func 20) #[] #[]) e n) (fun a' _ => n - (intOf (a'.tmps.getD 5 undef)).toNat) rfl ?_ ?_
 · intro K h0 hr hn'
   go_wp2_with fail
   go_step3
   rename_i hk
   exact hk _ _ (h0 _ _ ⟨0, _, _, _, _, _, _, _, _, _, _, _, _, _, _, _, _, _, _, _, _, rfl, rfl, Fr.refl _ _, by omega, rfl⟩)
 · rintro a' w' ⟨k, u2, u3, u4, u5, u6, u7, u8, u9, u10, u11, u12, u13, u14, u15, u16, u17, u18, u19, u20, u21, rfl, rfl, hw, hk, hF⟩ K hj hr hn'
   have HFE : Hid (firstN e (List.range' k (n - k)) = firstN e (List.range' 0 n)) := hF
   clear hF
   by_cases hend : k = n
   · subst hend
     have HE : Hid (firstN e (List.range' 0 k) = 0) := by
      show _ = _
      rw [← HFE.out, firstN_end]
     go_wp2_with fail
     refine hr _ _ ?_
     go_ret
     rw [HE.out]
     exact ⟨rfl, hw⟩
   · have hlt : k < n := by omega
     have hne : ((k : Int) == (n : Int)) = false := by simp; omega
     have hki : (k : Int) < (n : Int) := by omega
     obtain ⟨x, hx⟩ := HL.out k hlt
     obtain ⟨b, off, rfl, hc⟩ := HI.out k x hx
     have c0 : w'.cell? ⟨b, off + k * 5, none⟩ = some (.string x.name) := hw.cell (hc 0 _ rfl) (fun f => f)
     have c1 : w'.cell? ⟨b, off + k * 5 + 1, none⟩ = some (.string x.super) := hw.cell (hc 1 _ rfl) (fun f => f)
     have c2 : w'.cell? ⟨b, off + k * 5 + 2, none⟩ = some (.slice x.p.a x.p.n x.p.c) := hw.cell (hc 2 _ rfl) (fun f => f)
     have c3 : w'.cell? ⟨b, off + k * 5 + 3, none⟩ = some (.slice x.f.a x.f.n x.f.c) := hw.cell (hc 3 _ rfl) (fun f => f)
     have c4 : w'.cell? ⟨b, off + k * 5 + 4, none⟩ = some (.slice x.m.a x.m.n x.m.c) := hw.cell (hc 4 _ rfl) (fun f => f)
     have A := HASK.out w' k x hw hx
     have HW : Hid (Fr no w w') := hw
     have HN : Hid (firstN e (List.range' 0 n) = if e k ≠ 0 then e k else firstN e (List.range' (k + 1) (n - (k + 1)))) := by
      show _ = _
      rw [← HFE.out, firstN_step e k n hlt]
     clear hx hc hw
     generalize hask : e k = err at *
     by_cases h0 : err = 0
     · subst h0
       go_wp2_with fail
       refine A.mono ?_
       rintro r w2 ⟨rfl, f2⟩
       go_wp2_with fail
       go_step3
       refine hj _ _ ⟨k + 1, _, _, _, _, _, _, _, _, _, _, _, _, _, _, _, _, _, _, _, _, rfl, by go_num, HW.out.new f2 (fun _ _ f => f), by omega, ?_⟩ ?_
       · rw [HN.out, if_neg (by simp)]
       · simp [intOf]
         omega
     · have h0' : ((err : Int) == 0) = false := by simp; omega
       have HE : Hid (firstN e (List.range' 0 n) = err) := by show _ = _; rw [HN.out, if_pos h0]
       go_wp2_with fail
       refine A.mono ?_
       rintro r w2 ⟨rfl, f2⟩
       go_wp2_with fail
       refine hr _ _ ?_
       go_ret
       rw [HE.out]
       exact ⟨rfl, HW.out.new f2 (fun _ _ f => f)⟩
def FirstLkM (w0 : World) (v fv : Value) (e : Nat → Nat) (n : Nat) (a : Act) (w : World) : Prop :=
 ∃ (k : Nat) (u2 u3 u4 u5 u6 u7 u8 u9 u10 u11 u12 u13 u14 u15 u16 u17 u18 u19 u20 u21 : Value), a = { tmps := #[v, fv, u2, u3, u4, u5, u6, u7, u8, u9, u10, u11, u12, u13, u14, u15, u16, u17, u18, u19, u20, u21], defers := [] } ∧ u5 = .int .i64 (k : Int) ∧ Fr no w0 w ∧ k ≤ n ∧ firstN e (List.range' k (n - k)) = firstN e (List.range' 0 n)
set_option maxRecDepth 100000 in
set_option maxHeartbeats 2000000 in
theorem firstLkM_any (w : World) (v : Value) (l : List Lk) (h : SlG elLk w v l) (q : Nat) (e : Nat → Nat) (ASK : ∀ (w' : World) (k : Nat) (x : Lk), Fr no w w' → l[k]? = some x → Calls Tryz.prog 50 #[.pointer (some ⟨q, 0, none⟩), .agg #[.string x.k.name, .string x.k.super, .slice x.k.p.a x.k.p.n x.k.p.c, .slice x.k.f.a x.k.f.n x.k.f.c, .slice x.k.m.a x.k.m.n x.k.m.c, .slice x.s.a x.s.n x.s.c, .int .i64 x.wd, .map (some x.fm), .map (some x.mm)]] w' fun r w2 => r = .returned (.int .i64 (e k : Int)) ∧ Fr no w' w2) :
 Calls Tryz.prog 49 #[v, .func (.func 50) #[.pointer (some ⟨q, 0, none⟩)] #[]] w fun r w' => r = .returned (.int .i64 (firstN e (List.range' 0 l.length) : Int)) ∧ Fr no w w' := by
 obtain ⟨ad, cp, rfl, hcap, hmx, hit⟩ := h
 unfold maxLen at hmx
 have HI : Hid (∀ (i : Nat) (x : Lk), l[i]? = some x → ∃ b off, ad = some ⟨b, off, none⟩ ∧ ∀ (j : Nat) (u : Value), (elLk.f x)[j]? = some u → w.cell? ⟨b, off + i * 9 + j, none⟩ = some u) := hit
 have HASK : Hid (_) := ASK
 have HL : Hid (∀ k, k < l.length → ∃ x, l[k]? = some x) := fun k hk => ⟨_, List.getElem?_eq_getElem hk⟩
 clear hit ASK
 generalize hn : l.length = n at *
 go_enter Tryz.func49, Tryz.ntmps49
 go_wp2_with fail
 refine wp_label_one 0 (FirstLkM w (.slice ad n cp) (.func (.func 50) #[.pointer (some ⟨q, 0, none⟩)] #[]) e n) (fun a' _ => n - (intOf (a'.tmps.getD 5 undef)).toNat) rfl ?_ ?_
 · intro K h0 hr hn'
   go_wp2_with fail
   go_step3
   rename_i hk
   exact hk _ _ (h0 _ _ ⟨0, _, _, _, _, _, _, _, _, _, _, _, _, _, _, _, _, _, _, _, _, rfl, rfl, Fr.refl _ _, by omega, rfl⟩)
 · rintro a' w' ⟨k, u2, u3, u4, u5, u6, u7, u8, u9, u10, u11, u12, u13, u14, u15, u16, u17, u18, u19, u20, u21, rfl, rfl, hw, hk, hF⟩ K hj hr hn'
   have HFE : Hid (firstN e (List.range' k (n - k)) = firstN e (List.range' 0 n)) := hF
   clear hF
   by_cases hend : k = n
   · subst hend
     have HE : Hid (firstN e (List.range' 0 k) = 0) := by
      show _ = _
      rw [← HFE.out, firstN_end]
     go_wp2_with fail
     refine hr _ _ ?_
     go_ret
     rw [HE.out]
     exact ⟨rfl, hw⟩
   · have hlt : k < n := by omega
     have hne : ((k : Int) == (n : Int)) = false := by simp; omega
     have hki : (k : Int) < (n : Int) := by omega
     obtain ⟨x, hx⟩ := HL.out k hlt
     obtain ⟨b, off, rfl, hc⟩ := HI.out k x hx
     have c0 : w'.cell? ⟨b, off + k * 9, none⟩ = some (.string x.k.name) := hw.cell (hc 0 _ rfl) (fun f => f)
     have c1 : w'.cell? ⟨b, off + k * 9 + 1, none⟩ = some (.string x.k.super) := hw.cell (hc 1 _ rfl) (fun f => f)
     have c2 : w'.cell? ⟨b, off + k * 9 + 2, none⟩ = some (.slice x.k.p.a x.k.p.n x.k.p.c) := hw.cell (hc 2 _ rfl) (fun f => f)
     have c3 : w'.cell? ⟨b, off + k * 9 + 3, none⟩ = some (.slice x.k.f.a x.k.f.n x.k.f.c) := hw.cell (hc 3 _ rfl) (fun f => f)
     have c4 : w'.cell? ⟨b, off + k * 9 + 4, none⟩ = some (.slice x.k.m.a x.k.m.n x.k.m.c) := hw.cell (hc 4 _ rfl) (fun f => f)
     have c5 : w'.cell? ⟨b, off + k * 9 + 5, none⟩ = some (.slice x.s.a x.s.n x.s.c) := hw.cell (hc 5 _ rfl) (fun f => f)
     have c6 : w'.cell? ⟨b, off + k * 9 + 6, none⟩ = some (.int .i64 x.wd) := hw.cell (hc 6 _ rfl) (fun f => f)
     have c7 : w'.cell? ⟨b, off + k * 9 + 7, none⟩ = some (.map (some x.fm)) := hw.cell (hc 7 _ rfl) (fun f => f)
     have c8 : w'.cell? ⟨b, off + k * 9 + 8, none⟩ = some (.map (some x.mm)) := hw.cell (hc 8 _ rfl) (fun f => f)
     have A := HASK.out w' k x hw hx
     have HW : Hid (Fr no w w') := hw
     have HN : Hid (firstN e (List.range' 0 n) = if e k ≠ 0 then e k else firstN e (List.range' (k + 1) (n - (k + 1)))) := by
      show _ = _
      rw [← HFE.out, firstN_step e k n hlt]
     clear hx hc hw
     generalize hask : e k = err at *
     by_cases h0 : err = 0
     · subst h0
       go_wp2_with fail
       refine A.mono ?_
       rintro r w2 ⟨rfl, f2⟩
       go_wp2_with fail
       go_step3
       refine hj _ _ ⟨k + 1, _, _, _, _, _, _, _, _, _, _, _, _, _, _, _, _, _, _, _, _, rfl, by go_num, HW.out.new f2 (fun _ _ f => f), by omega, ?_⟩ ?_
       · rw [HN.out, if_neg (by simp)]
       · simp [intOf]
         omega
     · have h0' : ((err : Int) == 0) = false := by simp; omega
       have HE : Hid (firstN e (List.range' 0 n) = err) := by show _ = _; rw [HN.out, if_pos h0]
       go_wp2_with fail
       refine A.mono ?_
       rintro r w2 ⟨rfl, f2⟩
       go_wp2_with fail
       refine hr _ _ ?_
       go_ret
       rw [HE.out]
       exact ⟨rfl, HW.out.new f2 (fun _ _ f => f)⟩
def FirstLkP (w0 : World) (v fv : Value) (e : Nat → Nat) (n : Nat) (a : Act) (w : World) : Prop :=
 ∃ (k : Nat) (u2 u3 u4 u5 u6 u7 u8 u9 u10 u11 u12 u13 u14 u15 u16 u17 u18 u19 u20 u21 : Value), a = { tmps := #[v, fv, u2, u3, u4, u5, u6, u7, u8, u9, u10, u11, u12, u13, u14, u15, u16, u17, u18, u19, u20, u21], defers := [] } ∧ u5 = .int .i64 (k : Int) ∧ Fr no w0 w ∧ k ≤ n ∧ firstN e (List.range' k (n - k)) = firstN e (List.range' 0 n)
set_option maxRecDepth 100000 in
set_option maxHeartbeats 2000000 in
theorem firstLkP_any (w : World) (v : Value) (l : List Lk) (h : SlG elLk w v l) (q : Nat) (e : Nat → Nat) (ASK : ∀ (w' : World) (k : Nat) (x : Lk), Fr no w w' → l[k]? = some x → Calls Tryz.prog 51 #[.pointer (some ⟨q, 0, none⟩), .agg #[.string x.k.name, .string x.k.super, .slice x.k.p.a x.k.p.n x.k.p.c, .slice x.k.f.a x.k.f.n x.k.f.c, .slice x.k.m.a x.k.m.n x.k.m.c, .slice x.s.a x.s.n x.s.c, .int .i64 x.wd, .map (some x.fm), .map (some x.mm)]] w' fun r w2 => r = .returned (.int .i64 (e k : Int)) ∧ Fr no w' w2) :
 Calls Tryz.prog 49 #[v, .func (.func 51) #[.pointer (some ⟨q, 0, none⟩)] #[]] w fun r w' => r = .returned (.int .i64 (firstN e (List.range' 0 l.length) : Int)) ∧ Fr no w w' := by
 obtain ⟨ad, cp, rfl, hcap, hmx, hit⟩ := h
 unfold maxLen at hmx
 have HI : Hid (∀ (i : Nat) (x : Lk), l[i]? = some x → ∃ b off, ad = some ⟨b, off, none⟩ ∧ ∀ (j : Nat) (u : Value), (elLk.f x)[j]? = some u → w.cell? ⟨b, off + i * 9 + j, none⟩ = some u) := hit
 have HASK : Hid (_) := ASK
 have HL : Hid (∀ k, k < l.length → ∃ x, l[k]? = some x) := fun k hk => ⟨_, List.getElem?_eq_getElem hk⟩
 clear hit ASK
 generalize hn : l.length = n at *
 go_enter Tryz.func49, Tryz.ntmps49
 go_wp2_with fail
 refine wp_label_one 0 (FirstLkP w (.slice ad n cp) (.func (.func 51) #[.pointer (some ⟨q, 0, none⟩)] #[]) e n) (fun a' _ => n - (intOf (a'.tmps.getD 5 undef)).toNat) rfl ?_ ?_
 · intro K h0 hr hn'
   go_wp2_with fail
   go_step3
   rename_i hk
   exact hk _ _ (h0 _ _ ⟨0, _, _, _, _, _, _, _, _, _, _, _, _, _, _, _, _, _, _, _, _, rfl, rfl, Fr.refl _ _, by omega, rfl⟩)
 · rintro a' w' ⟨k, u2, u3, u4, u5, u6, u7, u8, u9, u10, u11, u12, u13, u14, u15, u16, u17, u18, u19, u20, u21, rfl, rfl, hw, hk, hF⟩ K hj hr hn'
   have HFE : Hid (firstN e (List.range' k (n - k)) = firstN e (List.range' 0 n)) := hF
   clear hF
   by_cases hend : k = n
   · subst hend
     have HE : Hid (firstN e (List.range' 0 k) = 0) := by
      show _ = _
      rw [← HFE.out, firstN_end]
     go_wp2_with fail
     refine hr _ _ ?_
     go_ret
     rw [HE.out]
     exact ⟨rfl, hw⟩
   · have hlt : k < n := by omega
     have hne : ((k : Int) == (n : Int)) = false := by simp; omega
     have hki : (k : Int) < (n : Int) := by omega
     obtain ⟨x, hx⟩ := HL.out k hlt
     obtain ⟨b, off, rfl, hc⟩ := HI.out k x hx
     have c0 : w'.cell? ⟨b, off + k * 9, none⟩ = some (.string x.k.name) := hw.cell (hc 0 _ rfl) (fun f => f)
     have c1 : w'.cell? ⟨b, off + k * 9 + 1, none⟩ = some (.string x.k.super) := hw.cell (hc 1 _ rfl) (fun f => f)
     have c2 : w'.cell? ⟨b, off + k * 9 + 2, none⟩ = some (.slice x.k.p.a x.k.p.n x.k.p.c) := hw.cell (hc 2 _ rfl) (fun f => f)
     have c3 : w'.cell? ⟨b, off + k * 9 + 3, none⟩ = some (.slice x.k.f.a x.k.f.n x.k.f.c) := hw.cell (hc 3 _ rfl) (fun f => f)
     have c4 : w'.cell? ⟨b, off + k * 9 + 4, none⟩ = some (.slice x.k.m.a x.k.m.n x.k.m.c) := hw.cell (hc 4 _ rfl) (fun f => f)
     have c5 : w'.cell? ⟨b, off + k * 9 + 5, none⟩ = some (.slice x.s.a x.s.n x.s.c) := hw.cell (hc 5 _ rfl) (fun f => f)
     have c6 : w'.cell? ⟨b, off + k * 9 + 6, none⟩ = some (.int .i64 x.wd) := hw.cell (hc 6 _ rfl) (fun f => f)
     have c7 : w'.cell? ⟨b, off + k * 9 + 7, none⟩ = some (.map (some x.fm)) := hw.cell (hc 7 _ rfl) (fun f => f)
     have c8 : w'.cell? ⟨b, off + k * 9 + 8, none⟩ = some (.map (some x.mm)) := hw.cell (hc 8 _ rfl) (fun f => f)
     have A := HASK.out w' k x hw hx
     have HW : Hid (Fr no w w') := hw
     have HN : Hid (firstN e (List.range' 0 n) = if e k ≠ 0 then e k else firstN e (List.range' (k + 1) (n - (k + 1)))) := by
      show _ = _
      rw [← HFE.out, firstN_step e k n hlt]
     clear hx hc hw
     generalize hask : e k = err at *
     by_cases h0 : err = 0
     · subst h0
       go_wp2_with fail
       refine A.mono ?_
       rintro r w2 ⟨rfl, f2⟩
       go_wp2_with fail
       go_step3
       refine hj _ _ ⟨k + 1, _, _, _, _, _, _, _, _, _, _, _, _, _, _, _, _, _, _, _, _, rfl, by go_num, HW.out.new f2 (fun _ _ f => f), by omega, ?_⟩ ?_
       · rw [HN.out, if_neg (by simp)]
       · simp [intOf]
         omega
     · have h0' : ((err : Int) == 0) = false := by simp; omega
       have HE : Hid (firstN e (List.range' 0 n) = err) := by show _ = _; rw [HN.out, if_pos h0]
       go_wp2_with fail
       refine A.mono ?_
       rintro r w2 ⟨rfl, f2⟩
       go_wp2_with fail
       refine hr _ _ ?_
       go_ret
       rw [HE.out]
       exact ⟨rfl, HW.out.new f2 (fun _ _ f => f)⟩
def FirstCsC (w0 : World) (v fv : Value) (e : Nat → Nat) (n : Nat) (a : Act) (w : World) : Prop :=
 ∃ (k : Nat) (u2 u3 u4 u5 u6 u7 u8 u9 u10 u11 u12 u13 u14 u15 u16 u17 u18 u19 u20 u21 : Value), a = { tmps := #[v, fv, u2, u3, u4, u5, u6, u7, u8, u9, u10, u11, u12, u13, u14, u15, u16, u17, u18, u19, u20, u21], defers := [] } ∧ u5 = .int .i64 (k : Int) ∧ Fr no w0 w ∧ k ≤ n ∧ firstN e (List.range' k (n - k)) = firstN e (List.range' 0 n)
set_option maxRecDepth 100000 in
set_option maxHeartbeats 2000000 in
theorem firstCsC_any (w : World) (v : Value) (l : List Cs) (h : SlG elCs w v l) (q : Nat) (e : Nat → Nat) (ASK : ∀ (w' : World) (k : Nat) (x : Cs), Fr no w w' → l[k]? = some x → Calls Tryz.prog 91 #[.pointer (some ⟨q, 0, none⟩), .agg #[.int .i64 x.k, .int .i64 x.n, .complex .f64 x.re x.im, .string x.c, .string x.m]] w' fun r w2 => r = .returned (.int .i64 (e k : Int)) ∧ Fr no w' w2) :
 Calls Tryz.prog 90 #[v, .func (.func 91) #[.pointer (some ⟨q, 0, none⟩)] #[]] w fun r w' => r = .returned (.int .i64 (firstN e (List.range' 0 l.length) : Int)) ∧ Fr no w w' := by
 obtain ⟨ad, cp, rfl, hcap, hmx, hit⟩ := h
 unfold maxLen at hmx
 have HI : Hid (∀ (i : Nat) (x : Cs), l[i]? = some x → ∃ b off, ad = some ⟨b, off, none⟩ ∧ ∀ (j : Nat) (u : Value), (elCs.f x)[j]? = some u → w.cell? ⟨b, off + i * 5 + j, none⟩ = some u) := hit
 have HASK : Hid (_) := ASK
 have HL : Hid (∀ k, k < l.length → ∃ x, l[k]? = some x) := fun k hk => ⟨_, List.getElem?_eq_getElem hk⟩
 clear hit ASK
 generalize hn : l.length = n at *
 go_enter Tryz.func90, Tryz.ntmps90
 go_wp2_with fail
 refine wp_label_one 0 (FirstCsC w (.slice ad n cp) (.func (.func 91) #[.pointer (some ⟨q, 0, none⟩)] #[]) e n) (fun a' _ => n - (intOf (a'.tmps.getD 5 undef)).toNat) rfl ?_ ?_
 · intro K h0 hr hn'
   go_wp2_with fail
   go_step3
   rename_i hk
   exact hk _ _ (h0 _ _ ⟨0, _, _, _, _, _, _, _, _, _, _, _, _, _, _, _, _, _, _, _, _, rfl, rfl, Fr.refl _ _, by omega, rfl⟩)
 · rintro a' w' ⟨k, u2, u3, u4, u5, u6, u7, u8, u9, u10, u11, u12, u13, u14, u15, u16, u17, u18, u19, u20, u21, rfl, rfl, hw, hk, hF⟩ K hj hr hn'
   have HFE : Hid (firstN e (List.range' k (n - k)) = firstN e (List.range' 0 n)) := hF
   clear hF
   by_cases hend : k = n
   · subst hend
     have HE : Hid (firstN e (List.range' 0 k) = 0) := by
      show _ = _
      rw [← HFE.out, firstN_end]
     go_wp2_with fail
     refine hr _ _ ?_
     go_ret
     rw [HE.out]
     exact ⟨rfl, hw⟩
   · have hlt : k < n := by omega
     have hne : ((k : Int) == (n : Int)) = false := by simp; omega
     have hki : (k : Int) < (n : Int) := by omega
     obtain ⟨x, hx⟩ := HL.out k hlt
     obtain ⟨b, off, rfl, hc⟩ := HI.out k x hx
     have c0 : w'.cell? ⟨b, off + k * 5, none⟩ = some (.int .i64 x.k) := hw.cell (hc 0 _ rfl) (fun f => f)
     have c1 : w'.cell? ⟨b, off + k * 5 + 1, none⟩ = some (.int .i64 x.n) := hw.cell (hc 1 _ rfl) (fun f => f)
     have c2 : w'.cell? ⟨b, off + k * 5 + 2, none⟩ = some (.complex .f64 x.re x.im) := hw.cell (hc 2 _ rfl) (fun f => f)
     have c3 : w'.cell? ⟨b, off + k * 5 + 3, none⟩ = some (.string x.c) := hw.cell (hc 3 _ rfl) (fun f => f)
     have c4 : w'.cell? ⟨b, off + k * 5 + 4, none⟩ = some (.string x.m) := hw.cell (hc 4 _ rfl) (fun f => f)
     have A := HASK.out w' k x hw hx
     have HW : Hid (Fr no w w') := hw
     have HN : Hid (firstN e (List.range' 0 n) = if e k ≠ 0 then e k else firstN e (List.range' (k + 1) (n - (k + 1)))) := by
      show _ = _
      rw [← HFE.out, firstN_step e k n hlt]
     clear hx hc hw
     generalize hask : e k = err at *
     by_cases h0 : err = 0
     · subst h0
       go_wp2_with fail
       refine A.mono ?_
       rintro r w2 ⟨rfl, f2⟩
       go_wp2_with fail
       go_step3
       refine hj _ _ ⟨k + 1, _, _, _, _, _, _, _, _, _, _, _, _, _, _, _, _, _, _, _, _, rfl, by go_num, HW.out.new f2 (fun _ _ f => f), by omega, ?_⟩ ?_
       · rw [HN.out, if_neg (by simp)]
       · simp [intOf]
         omega
     · have h0' : ((err : Int) == 0) = false := by simp; omega
       have HE : Hid (firstN e (List.range' 0 n) = err) := by show _ = _; rw [HN.out, if_pos h0]
       go_wp2_with fail
       refine A.mono ?_
       rintro r w2 ⟨rfl, f2⟩
       go_wp2_with fail
       refine hr _ _ ?_
       go_ret
       rw [HE.out]
       exact ⟨rfl, HW.out.new f2 (fun _ _ f => f)⟩
end Go.Proofs.YtalgjpmaafooeaaGreatDoor
/- The method that is called. -/
namespace Go.Proofs.YtalgjpmaafooeaaGreatDoor
open Go.ChangeShapes Go.WideShapes Go.ChangeAt Go.RowKit
open H (ky Owns MapOf ix up nameAt anc Fine obj fault)
def MmOk (Cs : List Cl) (y : Li) : Prop := ∀ n q, y.mm n = some q → q.1 < Cs.length ∧ ∃ m, methAt Cs q = some m ∧ m.name = n
theorem mmOk_0 (Cs : List Cl) (c : Cl) : MmOk Cs (li0 c) := fun n k h => by simp [li0] at h
theorem mmOk_fs {Cs : List Cl} (cn : ByteArray) : ∀ (l : List Fd) {y : Li}, MmOk Cs y → MmOk Cs (takeFs cn y l)
 | [], _, h => h
 | _ :: r, _, h => mmOk_fs cn r h
theorem mmOk_ms {Cs : List Cl} (num : Nat) (hn : num < Cs.length) : ∀ (l : List Mt) (a : Nat) {y : Li}, MmOk Cs y → (∀ i m, l[i]? = some m → (clsAt Cs num).methods[a + i]? = some m) → MmOk Cs (takeMs num a y l)
 | [], _, _, h, _ => h
 | m :: r, a, y, h, hl => by
  refine mmOk_ms num hn r (a + 1) (y := takeM num a y m) (fun n q hq => ?_) (fun i m' hi => ?_)
  · simp only [takeM] at hq
    split at hq
    · rename_i e
      simp only [Option.some.injEq] at hq
      subst hq
      exact ⟨hn, m, hl 0 m rfl, e⟩
    · exact h n q hq
  · have := hl (i + 1) m' (by simpa using hi)
    rw [show a + 1 + i = a + (i + 1) by omega]
    exact this
theorem mmOk_n (Cs : List Cl) : ∀ (l : List Nat) {y : Li}, (∀ j ∈ l, j < Cs.length) → MmOk Cs y → MmOk Cs (layN Cs y l)
 | [], _, _, h => h
 | j :: r, _, hl, h => mmOk_n Cs r (fun k hk => hl k (by simp [hk])) (mmOk_ms j (hl j (by simp)) _ 0 (mmOk_fs _ _ h) (fun i m hi => by simpa using hi))
theorem mmOk_lay (Cs : List Cl) (A : List Nat) (hA : Fine Cs.length A) (i : Nat) (hi : i < Cs.length) : MmOk Cs (lay Cs A i) :=
 mmOk_n _ _ (fun j hj => H.up_lt hA _ i hi j (List.mem_reverse.1 hj)) (mmOk_0 _ _)
theorem findOf_ok {Cs : List Cl} {A : List Nat} (hA : Fine Cs.length A) {cl s : ByteArray} {q : Nat × Nat} (h : findOf (namesOf Cs) (layAll Cs A) cl s = some q) : q.1 < Cs.length ∧ ∃ m, methAt Cs q = some m ∧ m.name = s := by
 unfold findOf at h
 cases hi : ix cl (namesOf Cs) with
 | none => rw [hi] at h; simp at h
 | some i =>
  have hil : i < Cs.length := by have := H.ix_lt hi; simpa [namesOf] using this
  rw [hi] at h
  simp only [layAll_get hil] at h
  exact mmOk_lay Cs A hA i hil s q h
def zMs : Ms := ⟨⟨#[]⟩, ⟨none, 0, 0⟩, ⟨0, ⟨#[]⟩⟩, 0, 0, ⟨none, 0, 0⟩, ⟨none, 0, 0⟩⟩
theorem results_11 (w : World) (r : Nat) (y x0 x1 x2 x3 x4 x5 x6 x7 z : Value) (h : w.heap[r]? = some (.cells #[x0, x1, x2, x3, x4, x5, x6, x7] 47 (0, 0))) (tmps : Array Value) (h1 : tmps.getD 6 undef = y) (h2 : tmps.getD 7 undef = .pointer (some ⟨r, 0, none⟩)) (h3 : tmps.getD 8 undef = z) :
 (results Tryz.f30 tmps).run Tryz.prog w = .ok (.tuple #[y, .agg #[x0, x1, x2, x3, x4, x5, x6, x7], z]) w := by
 have hl : (loadVar 47 ⟨r, 0, none⟩).run Tryz.prog w = .ok (.agg #[x0, x1, x2, x3, x4, x5, x6, x7]) w := run_loadVar_row (P := Tryz.prog) w r 47 47 #[x0, x1, x2, x3, x4, x5, x6, x7] (0, 0) _ h Tryz.underlying47 rfl (by kernel_rfl)
 have h1' : tmps[6]?.getD undef = y := by simpa using h1
 have h2' : tmps[7]?.getD undef = .pointer (some ⟨r, 0, none⟩) := by simpa using h2
 have h3' : tmps[8]?.getD undef = z := by simpa using h3
 simp [results, asAddr, h1', h2', h3', hl]
def MethAt (w' : World) (Cs : List Cl) (r : Option (Nat × Nat)) (e : Ending) : Prop :=
 (r = none → e = .returned (.tuple #[.string ⟨#[]⟩, msV zMs, .bool false])) ∧ ∀ q, r = some q → ∃ s' m, methAt Cs q = some m ∧ e = .returned (.tuple #[.string (clsAt Cs q.1).name, msV s', .bool true]) ∧ MtOwn w' s' m
set_option maxRecDepth 100000 in
set_option maxHeartbeats 4000000 in
theorem method_any (w : World) (p : Nat) (Cs : List Cl) (A : List Nat) (h : Prg w p Cs A) (hsm : ∀ c ∈ Cs, SmallC c) (cl s : ByteArray) (hcl : cl.size ≤ 1099511627776) (hs : s.size ≤ 1099511627776) :
 Calls Tryz.prog 30 #[.pointer (some ⟨p, 0, none⟩), .string cl, .string s] w fun e w' => MethAt w' Cs (findOf (namesOf Cs) (layAll Cs A) cl s) e ∧ Fr no w w' := by
 have G0 : Fr no w (w.alloc (.cells #[.string ⟨#[]⟩, .slice none 0 0, .int .i64 0, .string ⟨#[]⟩, .int .i64 0, .int .i64 0, .slice none 0 0, .slice none 0 0] 47)) := (Fr.refl no w).alloc _ _
 have E0 : (w.alloc (.cells #[.string ⟨#[]⟩, .slice none 0 0, .int .i64 0, .string ⟨#[]⟩, .int .i64 0, .int .i64 0, .slice none 0 0, .slice none 0 0] 47)).heap[w.heap.size]? = some (.cells #[.string ⟨#[]⟩, .slice none 0 0, .int .i64 0, .string ⟨#[]⟩, .int .i64 0, .int .i64 0, .slice none 0 0, .slice none 0 0] 47 (0, 0)) := heap_alloc_new w _
 have FI := find_any _ p Cs A (h.keep G0) cl s hcl hs
 have HP : Hid (∀ w', Fr no w w' → Prg w' p Cs A) := fun w' hf => h.keep hf
 have HQ : Hid (∀ q, findOf (namesOf Cs) (layAll Cs A) cl s = some q → q.1 < Cs.length ∧ ∃ m, methAt Cs q = some m ∧ m.name = s) := fun q hq => findOf_ok h.fine hq
 have HE : Hid (_ ∧ _) := ⟨E0, G0⟩
 clear h G0 E0
 generalize hW : w.alloc (.cells #[.string ⟨#[]⟩, .slice none 0 0, .int .i64 0, .string ⟨#[]⟩, .int .i64 0, .int .i64 0, .slice none 0 0, .slice none 0 0] 47) = W at *
 generalize hr : findOf (namesOf Cs) (layAll Cs A) cl s = r at *
 cases r with
 | none =>
  simp only [Option.isSome_none] at FI
  go_enter Tryz.func30, Tryz.ntmps30
  go_wp2_with fail
  refine FI.mono ?_
  rintro e w1 ⟨a, b, rfl, -, f1⟩
  have E1 := f1.heap HE.out.1 (fun f => f)
  have G2 : Fr no w1 (w1.alloc (.cells #[.int .i64 a, .int .i64 b] 136)) := (Fr.refl no w1).alloc _ _
  have E2 := G2.heap E1 (fun f => f)
  obtain ⟨b0, b1, b2, b3, b4, b5, b6, b7⟩ := box8 E2
  have fb := fun o => frozen_at (o := o) E2
  have HC : Hid (_) := chain8 E2 (.string ⟨#[]⟩) (.slice none 0 0) (.int .i64 0) (.string ⟨#[]⟩) (.int .i64 0) (.int .i64 0) (.slice none 0 0) (.slice none 0 0)
  have HFC : Hid (_) := frc8 (w1.alloc (.cells #[.int .i64 a, .int .i64 b] 136)) w.heap.size (.string ⟨#[]⟩) (.slice none 0 0) (.int .i64 0) (.string ⟨#[]⟩) (.int .i64 0) (.int .i64 0) (.slice none 0 0) (.slice none 0 0)
  have HG : Hid (Fr no w (w1.alloc (.cells #[.int .i64 a, .int .i64 b] 136))) := (HE.out.2.new f1 (fun _ _ f => f)).new G2 (fun _ _ f => f)
  clear E1 G2 E2 FI f1
  generalize hW2 : w1.alloc (.cells #[.int .i64 a, .int .i64 b] 136) = W2 at *
  go_wp2_with fail
  generalize hV : (((((((W2.setCell ⟨w.heap.size, 0, none⟩ (.string ⟨#[]⟩)).setCell ⟨w.heap.size, 1, none⟩ (.slice none 0 0)).setCell ⟨w.heap.size, 2, none⟩ (.int .i64 0)).setCell ⟨w.heap.size, 3, none⟩ (.string ⟨#[]⟩)).setCell ⟨w.heap.size, 4, none⟩ (.int .i64 0)).setCell ⟨w.heap.size, 5, none⟩ (.int .i64 0)).setCell ⟨w.heap.size, 6, none⟩ (.slice none 0 0)).setCell ⟨w.heap.size, 7, none⟩ (.slice none 0 0) = V at *
  refine bodyPost_ret (results_11 V w.heap.size (.string ⟨#[]⟩) (.string ⟨#[]⟩) (.slice none 0 0) (.int .i64 0) (.string ⟨#[]⟩) (.int .i64 0) (.int .i64 0) (.slice none 0 0) (.slice none 0 0) (.bool false) HC.out _ rfl rfl rfl) rfl ?_
  exact ⟨⟨fun _ => rfl, fun q hq => by simp at hq⟩, HG.out.new HFC.out (fun i hi e => by omega)⟩
 | some q =>
  simp only [Option.isSome_some] at FI
  obtain ⟨hq1, m, hm, -⟩ := HQ.out q rfl
  have HMEM : Hid (clsAt Cs q.1 ∈ Cs) := by
   show _ ∈ _
   unfold clsAt
   rw [List.getD_eq_getElem?_getD, List.getElem?_eq_getElem hq1]
   exact List.getElem_mem hq1
  go_enter Tryz.func30, Tryz.ntmps30
  go_wp2_with fail
  refine FI.mono ?_
  rintro e w1 ⟨a, b, rfl, hab, f1⟩
  obtain ⟨rfl, rfl⟩ := hab q rfl
  have g1 : Fr no w w1 := HE.out.2.new f1 (fun _ _ f => f)
  have G2 : Fr no w1 (w1.alloc (.cells #[.int .i64 (q.1 : Int), .int .i64 (q.2 : Int)] 136)) := (Fr.refl no w1).alloc _ _
  have g2 := g1.new G2 (fun _ _ f => f)
  have E2 := G2.heap (f1.heap HE.out.1 (fun f => f)) (fun f => f)
  have B2 : (w1.alloc (.cells #[.int .i64 (q.1 : Int), .int .i64 (q.2 : Int)] 136)).heap[w1.heap.size]? = some (.cells #[.int .i64 (q.1 : Int), .int .i64 (q.2 : Int)] 136 (0, 0)) := heap_alloc_new _ _
  obtain ⟨w0, hp, mp, v, X, ch, P, -⟩ := (HP.out _ g2).ex
  obtain ⟨x, y, hx, hy, L⟩ := P.get (i := q.1) (by rw [layAll_len]; exact hq1)
  have hyc : y.c = clsAt Cs q.1 := by
   rw [layAll_get hq1] at hy
   simp only [Option.some.injEq] at hy
   rw [← hy, lay_cls]
  obtain ⟨qv, cv, rfl⟩ := P.form
  rw [layAll_len] at P
  obtain ⟨g, rfl⟩ := P.row.some_of (fun e => by rw [e] at hx; simp at hx)
  obtain ⟨-, -, b2⟩ := cells3 P.pb
  have d : ∀ j u, (lkC x)[j]? = some u → _ := fun j u hj => P.row.cell okLk hx hj
  have d0 := d 0 _ rfl
  have d1 := d 1 _ rfl
  have d2 := d 2 _ rfl
  have d3 := d 3 _ rfl
  have d4 := d 4 _ rfl
  simp only [elLk, Nat.add_zero] at d0 d1 d2 d3 d4
  have y0 := cell_at (o := 0) B2
  have y1 := cell_at (o := 1) B2
  simp only [List.getElem?_toArray, List.getElem?_cons_zero, List.getElem?_cons_succ] at y0 y1
  have hqi : (q.1 : Int) < (Cs.length : Int) := by omega
  have HK : Hid (_ ∧ _ ∧ _ ∧ _ ∧ _) := ⟨E2, B2, g2, L.k, hyc⟩
  clear P L hx hy d E2 B2 g2 G2 g1 f1 FI hyc hab
  generalize hW2 : w1.alloc (.cells #[.int .i64 (q.1 : Int), .int .i64 (q.2 : Int)] 136) = W2 at *
  generalize hcl2 : Cs.length = n at *
  go_wp2_with fail
  have HS0 : Hid (Fr no W2 W2.drew) := (Fr.refl no W2).drew
  have F3 : Hid (Fr no W2 (W2.drew.alloc (.cells #[.string ⟨#[]⟩, .string ⟨#[]⟩, .slice none 0 0, .slice none 0 0, .slice none 0 0] 51))) := (Fr.refl no W2).drew.alloc _ _
  obtain ⟨W4, hst4, hb4, F4⟩ := store_mid (W2.drew.alloc (.cells #[.string ⟨#[]⟩, .string ⟨#[]⟩, .slice none 0 0, .slice none 0 0, .slice none 0 0] 51)) W2.heap.size 0 51 51 #[.string ⟨#[]⟩, .string ⟨#[]⟩, .slice none 0 0, .slice none 0 0, .slice none 0 0] #[.string x.k.name, .string x.k.super, .slice x.k.p.a x.k.p.n x.k.p.c, .slice x.k.f.a x.k.f.n x.k.f.c, .slice x.k.m.a x.k.m.n x.k.m.c] (heap_alloc_new W2.drew _) (Nat.le_refl 5) (by kernel_rfl) (by kernel_rfl)
  have hb4' : W4.heap[W2.heap.size]? = some (.cells #[.string x.k.name, .string x.k.super, .slice x.k.p.a x.k.p.n x.k.p.c, .slice x.k.f.a x.k.f.n x.k.f.c, .slice x.k.m.a x.k.m.n x.k.m.c] 51 (0, 0)) := hb4
  refine late_begin (S := fun w' => Fr no W2 w') (g := 10) (by kernel_rfl) ?_
  refine late_pure 0 (ptr p 0) rfl (by kernel_rfl) (by kernel_rfl) (by kernel_rfl) (fun _ _ _ h => h) (by decide) (yields rfl (fun _ _ => ev_move 0 _ rfl (by kernel_rfl))) (fun _ => HS0.out) ?_
  refine late_pure 1 (ptr p 0) rfl (by kernel_rfl) (by kernel_rfl) (by kernel_rfl) (fun _ _ _ h => h) (by decide) (yields rfl (fun _ _ => ev_nil 22 ⟨p, 0, none⟩ rfl (by kernel_rfl))) (fun _ => HS0.out) ?_
  refine late_pure 2 (ptr p 2) rfl (by kernel_rfl) (by kernel_rfl) (by kernel_rfl) (fun _ _ _ h => h) (by decide) (yields rfl (fun _ _ => ev_field 120 23 2 (ptr p 0) _ rfl (by kernel_rfl) (by kernel_rfl))) (fun _ => HS0.out) ?_
  refine late_take 3 (.slice (some ⟨g, 0, none⟩) n cv) rfl (by kernel_rfl) (by kernel_rfl) (by kernel_rfl) (fun _ _ _ h => h) (waits_of (by kernel_rfl)) (by decide) (by kernel_rfl) (yields rfl (fun w' hS => ev_load 118 24 (ptr p 2) _ rfl (by kernel_rfl) (by simp [go_sem, hS.cell b2 (fun f => f)]))) HS0.out ?_
  refine late_pure 4 (ptr w1.heap.size 0) rfl (by kernel_rfl) (by kernel_rfl) (by kernel_rfl) (fun _ _ _ h => h) (by decide) (yields rfl (fun _ _ => ev_field 136 9 0 (ptr w1.heap.size 0) _ rfl (by kernel_rfl) (by kernel_rfl))) (fun _ => HS0.out) ?_
  refine late_take 5 (.int .i64 (q.1 : Int)) rfl (by kernel_rfl) (by kernel_rfl) (by kernel_rfl) (fun _ _ _ h => h) (waits_of (by kernel_rfl)) (by decide) (by kernel_rfl) (yields rfl (fun w' hS => ev_load 3 26 (ptr w1.heap.size 0) _ rfl (by kernel_rfl) (by simp [go_sem, hS.cell y0 (fun f => f)]))) HS0.out ?_
  refine late_pure 6 (.pointer (some ⟨g, q.1 * 9, none⟩)) rfl (by kernel_rfl) (by kernel_rfl) (by kernel_rfl) (fun _ _ _ h => h) (by decide) (yields rfl (fun _ _ => ev_index 118 25 27 (.slice (some ⟨g, 0, none⟩) n cv) (.int .i64 (q.1 : Int)) _ rfl (by kernel_rfl) (by kernel_rfl) (by simp [go_sem, hqi]))) (fun _ => HS0.out) ?_
  refine late_pure 7 (.pointer (some ⟨g, q.1 * 9, none⟩)) rfl (by kernel_rfl) (by kernel_rfl) (by kernel_rfl) (fun _ _ _ h => h) (by decide) (yields rfl (fun _ _ => ev_field 128 28 0 (.pointer (some ⟨g, q.1 * 9, none⟩)) _ rfl (by kernel_rfl) (by kernel_rfl))) (fun _ => HS0.out) ?_
  refine late_take 8 (.agg #[.string x.k.name, .string x.k.super, .slice x.k.p.a x.k.p.n x.k.p.c, .slice x.k.f.a x.k.f.n x.k.f.c, .slice x.k.m.a x.k.m.n x.k.m.c]) rfl (by kernel_rfl) (by kernel_rfl) (by kernel_rfl) (fun _ _ _ h => h) (waits_of (by kernel_rfl)) (by decide) (by kernel_rfl) (yields rfl (fun w' hS => ev_load 51 29 (.pointer (some ⟨g, q.1 * 9, none⟩)) _ rfl (by kernel_rfl) (run_loadAt_mid (P := Tryz.prog) w' g (q.1 * 9) 51 [.string x.k.name, .string x.k.super, .slice x.k.p.a x.k.p.n x.k.p.c, .slice x.k.f.a x.k.f.n x.k.f.c, .slice x.k.m.a x.k.m.n x.k.m.c] _ (fun j v hv => by match j, hv with | 0, hv => exact (Option.some.inj hv) ▸ hS.cell d0 (fun f => f) | 1, hv => exact (Option.some.inj hv) ▸ hS.cell d1 (fun f => f) | 2, hv => exact (Option.some.inj hv) ▸ hS.cell d2 (fun f => f) | 3, hv => exact (Option.some.inj hv) ▸ hS.cell d3 (fun f => f) | 4, hv => exact (Option.some.inj hv) ▸ hS.cell d4 (fun f => f) | n + 5, hv => simp at hv) Tryz.underlying51 rfl (by kernel_rfl)))) HS0.out ?_
  refine late_all [9] (by kernel_rfl) (by simp) (fun j hj => ?_)
  obtain rfl := one_of hj
  refine late_op (v := ptr W2.heap.size 0) (w' := W2.drew.alloc (.cells #[.string ⟨#[]⟩, .string ⟨#[]⟩, .slice none 0 0, .slice none 0 0, .slice none 0 0] 51)) rfl rfl (by kernel_rfl) ⟨fun _ => F3.out, ?_⟩
  refine late_all [10] (by kernel_rfl) (by simp) (fun j hj => ?_)
  obtain rfl := one_of hj
  refine late_skip rfl rfl (ev_store 51 11 30 _ _ _ rfl (by kernel_rfl) (by kernel_rfl) hst4) ⟨(fun h => Bool.noConfusion (show true = false from h)), ?_⟩
  refine late_done (by kernel_rfl) ?_
  have g4 : Fr no W2 W4 := F3.out.new F4 (fun i hi e => by omega)
  obtain ⟨E2, B2, g2, Lk, hyc⟩ := HK.out
  have E4 := g4.heap E2 (fun f => f)
  have B4 := g4.heap B2 (fun f => f)
  have C4 := Lk.keep g4
  obtain ⟨ls, ml1, ml2, ml3⟩ := C4.m
  have hmg : (clsAt Cs q.1).methods[q.2]? = some m := hm
  rw [← hyc] at hmg
  have hq2 : q.2 < y.c.methods.length := (List.getElem?_eq_some_iff.1 hmg).1
  obtain ⟨sx, hsx⟩ : ∃ sx, ls[q.2]? = some sx := ⟨_, List.getElem?_eq_getElem (by omega)⟩
  have mo := ml3 q.2 sx m hsx hmg
  obtain ⟨mq, mc, hmf⟩ := ml1.form
  simp only [Value.slice.injEq] at hmf
  obtain ⟨-, hmn, -⟩ := hmf
  obtain ⟨mg, hmgq⟩ := ml1.some_of (fun e => by rw [e] at hsx; simp at hsx)
  rw [hmgq] at ml1 hb4'
  have dm : ∀ w', Fr no W4 w' → ∀ j u, (msC sx)[j]? = some u → w'.cell? ⟨mg, q.2 * 8 + j, none⟩ = some u := fun w' hf j u hj => hf.cell (ml1.cell okMs hsx hj) (fun f => f)
  have hq2i : (q.2 : Int) < (x.k.m.n : Int) := by omega
  have HDM : Hid (_) := dm
  have CM := copyMethod_any W4.drew sx m (mo.at'.kept (Fr.refl no W4).drew) ((hsm _ HMEM.out).ms m (List.mem_of_getElem? hm))
  unfold msV at CM
  have hnm : x.k.name = (clsAt Cs q.1).name := by rw [Lk.name, hyc]
  have HT : Hid (_ ∧ _ ∧ _ ∧ _) := ⟨hb4', B4, E4, g2.new g4 (fun _ _ f => f)⟩
  clear dm E4 B4 C4 ml1 ml2 ml3 mo hb4 hst4 F3 F4 g4 hsx Lk E2 B2 g2 hb4' d0 d1 d2 d3 d4 y0 y1 b2 HS0 HK
  go_wp2_with fail
  have HS1 : Hid (Fr no W4 W4.drew) := (Fr.refl no W4).drew
  refine late_begin (S := fun w' => Fr no W4 w') (g := 10) (by kernel_rfl) ?_
  refine late_pure 0 (ptr W2.heap.size 0) rfl (by kernel_rfl) (by kernel_rfl) (by kernel_rfl) (fun _ _ _ h => h) (by decide) (yields rfl (fun _ _ => ev_field 51 11 0 (ptr W2.heap.size 0) _ rfl (by kernel_rfl) (by kernel_rfl))) (fun _ => HS1.out) ?_
  refine late_take 1 (.string x.k.name) rfl (by kernel_rfl) (by kernel_rfl) (by kernel_rfl) (fun _ _ _ h => h) (waits_of (by kernel_rfl)) (by decide) (by kernel_rfl) (yields rfl (fun w' hS => ev_load 9 31 (ptr W2.heap.size 0) _ rfl (by kernel_rfl) (by simp [go_sem, (box5 (hS.heap HT.out.1 (fun f => f))).1]))) HS1.out ?_
  refine late_pure 2 (ptr W2.heap.size 4) rfl (by kernel_rfl) (by kernel_rfl) (by kernel_rfl) (fun _ _ _ h => h) (by decide) (yields rfl (fun _ _ => ev_field 51 11 4 (ptr W2.heap.size 0) _ rfl (by kernel_rfl) (by kernel_rfl))) (fun _ => HS1.out) ?_
  refine late_take 3 (.slice (some ⟨mg, 0, none⟩) x.k.m.n x.k.m.c) rfl (by kernel_rfl) (by kernel_rfl) (by kernel_rfl) (fun _ _ _ h => h) (waits_of (by kernel_rfl)) (by decide) (by kernel_rfl) (yields rfl (fun w' hS => ev_load 48 33 (ptr W2.heap.size 4) _ rfl (by kernel_rfl) (by simp [go_sem, (box5 (hS.heap HT.out.1 (fun f => f))).2.2.2.2]))) HS1.out ?_
  refine late_pure 4 (ptr w1.heap.size 1) rfl (by kernel_rfl) (by kernel_rfl) (by kernel_rfl) (fun _ _ _ h => h) (by decide) (yields rfl (fun _ _ => ev_field 136 9 1 (ptr w1.heap.size 0) _ rfl (by kernel_rfl) (by kernel_rfl))) (fun _ => HS1.out) ?_
  refine late_take 5 (.int .i64 (q.2 : Int)) rfl (by kernel_rfl) (by kernel_rfl) (by kernel_rfl) (fun _ _ _ h => h) (waits_of (by kernel_rfl)) (by decide) (by kernel_rfl) (yields rfl (fun w' hS => ev_load 3 35 (ptr w1.heap.size 1) _ rfl (by kernel_rfl) (by simp [go_sem, cell_at (o := 1) (hS.heap HT.out.2.1 (fun f => f))]))) HS1.out ?_
  refine late_pure 6 (.pointer (some ⟨mg, q.2 * 8, none⟩)) rfl (by kernel_rfl) (by kernel_rfl) (by kernel_rfl) (fun _ _ _ h => h) (by decide) (yields rfl (fun _ _ => ev_index 48 34 36 (.slice (some ⟨mg, 0, none⟩) x.k.m.n x.k.m.c) (.int .i64 (q.2 : Int)) _ rfl (by kernel_rfl) (by kernel_rfl) (by simp [go_sem, hq2i]))) (fun _ => HS1.out) ?_
  refine late_take 7 (.agg #[.string sx.name, .slice sx.p.a sx.p.n sx.p.c, .int .i64 sx.ret.k, .string sx.ret.c, .int .i64 sx.lo, .int .i64 sx.st, .slice sx.c.a sx.c.n sx.c.c, .slice sx.h.a sx.h.n sx.h.c]) rfl (by kernel_rfl) (by kernel_rfl) (by kernel_rfl) (fun _ _ _ h => h) (waits_of (by kernel_rfl)) (by decide) (by kernel_rfl) (yields rfl (fun w' hS => ev_load 47 37 (.pointer (some ⟨mg, q.2 * 8, none⟩)) _ rfl (by kernel_rfl) (run_loadAt_mid (P := Tryz.prog) w' mg (q.2 * 8) 47 [.string sx.name, .slice sx.p.a sx.p.n sx.p.c, .int .i64 sx.ret.k, .string sx.ret.c, .int .i64 sx.lo, .int .i64 sx.st, .slice sx.c.a sx.c.n sx.c.c, .slice sx.h.a sx.h.n sx.h.c] _ (fun j v hv => HDM.out w' hS j v hv) Tryz.underlying47 rfl (by kernel_rfl)))) HS1.out ?_
  refine late_all [8] (by kernel_rfl) (by simp) (fun j hj => ?_)
  obtain rfl := one_of hj
  refine late_call (f := 58) rfl rfl (by kernel_rfl) (R := fun v w' => ∃ s', v = msV s' ∧ MtOwn w' s' m ∧ Fr no W4.drew w') (CM.mono (fun e w' ⟨s', h1, h2, h3⟩ => ⟨_, h1, s', rfl, h2, h3⟩)) (fun v w5 hv => ?_)
  obtain ⟨s', rfl, o5, f5⟩ := hv
  have g5 : Fr no W4 w5 := (Fr.refl no W4).drew.new f5 (fun _ _ f => f)
  refine ⟨fun _ => g5, ?_⟩
  have E5 := g5.heap HT.out.2.2.1 (fun f => f)
  obtain ⟨w6, hst6, hb6, F6⟩ := store_mid w5 w.heap.size 0 47 47 #[.string ⟨#[]⟩, .slice none 0 0, .int .i64 0, .string ⟨#[]⟩, .int .i64 0, .int .i64 0, .slice none 0 0, .slice none 0 0] #[.string s'.name, .slice s'.p.a s'.p.n s'.p.c, .int .i64 s'.ret.k, .string s'.ret.c, .int .i64 s'.lo, .int .i64 s'.st, .slice s'.c.a s'.c.n s'.c.c, .slice s'.h.a s'.h.n s'.h.c] E5 (Nat.le_refl 8) (by kernel_rfl) (by kernel_rfl)
  have hb6' : w6.heap[w.heap.size]? = some (.cells #[.string s'.name, .slice s'.p.a s'.p.n s'.p.c, .int .i64 s'.ret.k, .string s'.ret.c, .int .i64 s'.lo, .int .i64 s'.st, .slice s'.c.a s'.c.n s'.c.c, .slice s'.h.a s'.h.n s'.h.c] 47 (0, 0)) := hb6
  refine late_pure 9 (.string x.k.name) rfl (by kernel_rfl) (by kernel_rfl) (by kernel_rfl) (fun _ _ _ h => h) (by decide) (yields rfl (fun _ _ => ev_assign 32 _ rfl (by kernel_rfl))) (fun _ => g5) ?_
  refine late_all [10] (by kernel_rfl) (by simp) (fun j hj => ?_)
  obtain rfl := one_of hj
  unfold msV
  refine late_skip rfl rfl (ev_store 47 7 39 _ _ _ rfl (by kernel_rfl) (by kernel_rfl) hst6) ⟨(fun h => Bool.noConfusion (show true = false from h)), ?_⟩
  refine late_pure 11 (.bool true) rfl (by kernel_rfl) (by kernel_rfl) (by kernel_rfl) (fun _ _ _ h => h) (by decide) (yields rfl (fun _ _ => by kernel_rfl)) (fun h => Bool.noConfusion (show true = false from h)) ?_
  refine late_done (by kernel_rfl) ?_
  have HZ : Hid (_ ∧ _ ∧ _) := ⟨hb6', o5.kept F6 (fun k hk cu e hc => by
   rw [hk, E5] at hc
   simp only [Option.some.injEq, Obj.cells.injEq] at hc
   rw [← hc.2.1]
   decide), (HT.out.2.2.2.new g5 (fun _ _ f => f)).new F6 (fun i hi e => by omega)⟩
  clear hst6 hb6 hb6' F6 E5 o5 f5 g5
  go_wp2_with fail
  refine bodyPost_ret (results_11 w6 w.heap.size (.string x.k.name) (.string s'.name) (.slice s'.p.a s'.p.n s'.p.c) (.int .i64 s'.ret.k) (.string s'.ret.c) (.int .i64 s'.lo) (.int .i64 s'.st) (.slice s'.c.a s'.c.n s'.c.c) (.slice s'.h.a s'.h.n s'.h.c) (.bool true) HZ.out.1 _ (by kernel_rfl) (by kernel_rfl) (by kernel_rfl)) rfl ?_
  refine ⟨⟨fun e => by simp at e, fun q' hq' => ?_⟩, HZ.out.2.2⟩
  simp only [Option.some.injEq] at hq'
  subst hq'
  exact ⟨s', m, hm, by rw [hnm]; rfl, HZ.out.2.1⟩
end Go.Proofs.YtalgjpmaafooeaaGreatDoor
