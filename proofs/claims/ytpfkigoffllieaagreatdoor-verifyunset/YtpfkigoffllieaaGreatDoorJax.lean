/- An instruction run, and all that may come next reached. -/
import Derived.Test.YtpfkigoffllieaaGreatDoorJaw
namespace Go.Proofs.YtpfkigoffllieaaGreatDoor
open Go.ChangeShapes Go.WideShapes Go.ChangeAt Go.RowKit
open H (ix NewV)

set_option maxRecDepth 100000 in
theorem handleNone (w : World) (f : Nat) (q : Option Addr) (cc : Nat) (h : w.cell? ⟨f, 8, none⟩ = some (.slice q 0 cc)) (i : Int) : Calls Tryz.prog 128 #[.pointer (some ⟨f, 0, none⟩), .int .i64 i] w fun e w' => e = .returned (.int .i64 0) ∧ w' = w := by
  go_enter Tryz.func128, Tryz.ntmps128
  go_wp2_with fail
  go_loopw [15] (fun i wr => i = .int .i64 0 ∧ wr = w) (fun _ _ => 0)
  case atStart => exact ⟨rfl, rfl⟩
  case round =>
    obtain ⟨rfl, rfl⟩ := hrel
    go_wp2_with fail
    go_ret
    exact ⟨rfl, rfl⟩

def zS : Stt := ⟨false, [], []⟩
abbrev Ps := List Stt × List Bool
/-- One may come to number j in state y. -/
def rch (y : Stt) (j : Nat) (p : Ps) : Ps := (p.1.set j (reachX (p.1.getD j zS) y), p.2.set j (reachC (p.1.getD j zS) y (p.2.getD j false)))
def rchE (K : Int) (y : Stt) (j : Nat) (p : Ps) : Int := reachErr K (p.1.getD j zS) y
/-- That they may be merged. -/
def okR (x y : Stt) : Prop := x.r = true → x.st.length = y.st.length → x.st = [] ∧ y.st = [] ∧ x.lo.length = y.lo.length ∧ 0 < x.lo.length ∧ ∀ (i : Nat) (a b : Ty), x.lo[i]? = some a → y.lo[i]? = some b → mrg a b

def after1 (K : Int) (ins : Int × Int) (y : Stt) (at' : Nat) (p : Ps) : Int × Ps := if has ins.1 1 = false then (rchE K y (at' + 1) p, rch y (at' + 1) p) else (0, p)
def after2 (K : Int) (ins : Int × Int) (y : Stt) (p : Ps) : Int × Ps := if has ins.1 2 = true then (rchE K y ins.2.toNat p, rch y ins.2.toNat p) else (0, p)
/-- One step. -/
def stepP (K : Int) (r : Rl) (ins : Int × Int) (at' : Nat) (p : Ps) : Int × Ps :=
  if runErr r ins (p.1.getD at' zS) ≠ 0 then (runErr r ins (p.1.getD at' zS), p)
  else if (after1 K ins (runS r ins (p.1.getD at' zS)) at' p).1 ≠ 0 then after1 K ins (runS r ins (p.1.getD at' zS)) at' p
  else after2 K ins (runS r ins (p.1.getD at' zS)) (after1 K ins (runS r ins (p.1.getD at' zS)) at' p).2

theorem getD_of {α : Type} {l : List α} {i : Nat} {x : α} (h : l[i]? = some x) (z : α) : l.getD i z = x := by rw [List.getD_eq_getElem?_getD, h]; rfl

set_option maxRecDepth 100000 in
set_option maxHeartbeats 8000000 in
theorem step_any (w : World) (f S C c : Nat) (K : Int) (cd : List (Int × Int)) (rl : List Rl) (p : Ps) (EV : ∀ w', Fr (Tn S C c) w w' → Con w' f S C K cd rl) (FL : Fl w S C c cd.length p.1 p.2) (hcw : c ≤ w.heap.size) (hf : f < c ∧ f ≠ S ∧ f ≠ C)
    (i : Nat) (x : Stt) (hx : p.1[i]? = some x) (hr : x.r = true) (r : Rl) (hrl : rl[i]? = some r) (hfit : ∀ t ∈ r.tk, t.k = 1 ∨ t.k = 2 ∨ t.k = 6) (ins : Int × Int) (hins : cd[i]? = some ins)
    (h38 : rd38 ins x.lo) (h7 : ins.1 ≠ 7) (h4 : ins.1 = 4 → 0 ≤ ins.2 ∧ ins.2 < x.lo.length) (h5 : ins.1 = 5 → 0 ≤ ins.2 ∧ ins.2 < x.lo.length ∧ r.tk.length = 1) (hfew : r.tk.length ≤ 1000) (hfew2 : r.pt.length ≤ 1000)
    (hy : (runS r ins x).lo.length ≤ 1000 ∧ (runS r ins x).st.length ≤ 1000) (h1 : has ins.1 1 = false → i + 1 < cd.length ∧ okR (p.1.getD (i + 1) zS) (runS r ins x)) (h2 : has ins.1 2 = true → 0 ≤ ins.2 ∧ ins.2 < cd.length ∧ okR ((after1 K ins (runS r ins x) i p).2.1.getD ins.2.toNat zS) (runS r ins x) ∧ (has ins.1 1 = false → ((after1 K ins (runS r ins x) i p).2.1.getD ins.2.toNat zS).r = false)) :
    Calls Tryz.prog 99 #[.pointer (some ⟨f, 0, none⟩), .int .i64 (i : Int)] w fun e w' => e = .returned (.int .i64 (stepP K r ins i p).1) ∧ ((stepP K r ins i p).1 = 0 → Fl w' S C c cd.length (stepP K r ins i p).2.1 (stepP K r ins i p).2.2) ∧ Fr (Tn S C c) w w' := by
  have hil : i < cd.length := (List.getElem?_eq_some_iff.1 hins).1
  have hgx : p.1.getD i zS = x := getD_of hx zS
  have hSP : stepP K r ins i p = if runErr r ins x ≠ 0 then (runErr r ins x, p) else if (after1 K ins (runS r ins x) i p).1 ≠ 0 then after1 K ins (runS r ins x) i p else after2 K ins (runS r ins x) (after1 K ins (runS r ins x) i p).2 := by unfold stepP; rw [hgx]
  have nm : ∀ {w w' : World}, Fr no w w' → Fr (Tn S C c) w w' := fun h => h.mono (fun _ _ f => f.elim)
  have tm : ∀ {w w' : World} {d : Nat}, Fr (Tn2 S C c d) w w' → Fr (Tn S C c) w w' := fun h => h.mono (fun _ _ e => e.elim .inl (fun e => e.elim (fun e => .inr (.inl e)) (fun e => .inr (.inr e.1))))
  have tt : ∀ {a b c' : World}, Fr (Tn S C c) a b → Fr (Tn S C c) b c' → Fr (Tn S C c) a c' := fun h k => h.trans k (fun _ _ e => e) (fun _ _ e => e)
  have CN := EV w (Fr.refl _ w)
  obtain ⟨cb, co, cc, a7, cc1, hcode⟩ := CN.code
  obtain ⟨c0, c1⟩ := hcode i ins hins
  have hii : (i : Int) < (cd.length : Int) := by omega
  generalize hW : w.alloc (.cells #[.int .i64 ins.1, .int .i64 ins.2] 26) = W
  have G0 : Fr no w W := by rw [← hW]; exact (Fr.refl no w).alloc _ _
  have E0 : W.heap[w.heap.size]? = some (.cells #[.int .i64 ins.1, .int .i64 ins.2] 26 (0, 0)) := by rw [← hW]; exact heap_alloc_new w _
  have RN := run_any W f S C c K cd rl p.1 p.2 (EV W (nm G0)) (FL.keep G0) i x hx hr r hrl hfit ins hins h38 h7 h4 h5 hfew hfew2
  have HST : Hid (∀ w', Fr (Tn S C c) w w' → Calls Tryz.prog 78 #[.int .i64 ins.1] w' fun e w2 => e = .returned (.bool (has ins.1 1)) ∧ w2 = w') := fun w' hf => stops_any w' (EV w' hf).tr ins.1
  have HJP : Hid (∀ w', Fr (Tn S C c) w w' → Calls Tryz.prog 104 #[.int .i64 ins.1] w' fun e w2 => e = .returned (.bool (has ins.1 2)) ∧ w2 = w') := fun w' hf => jumps_any w' (EV w' hf).tr ins.1
  have HHD : Hid (∀ w', Fr (Tn S C c) w w' → Calls Tryz.prog 128 #[.pointer (some ⟨f, 0, none⟩), .int .i64 (i : Int)] w' fun e w2 => e = .returned (.int .i64 0) ∧ w2 = w') := fun w' hf => by
    obtain ⟨q, hcc, hh⟩ := (EV w' hf).hands
    exact handleNone w' f q hcc hh _
  generalize hY : runS r ins x = y at *
  generalize hEE : runErr r ins x = ee at *
  by_cases he : ee = 0
  · subst he
    have HSP : Hid (stepP K r ins i p = if (after1 K ins y i p).1 ≠ 0 then after1 K ins y i p else after2 K ins y (after1 K ins y i p).2) := by show _ = _; rw [hSP, if_neg (by simp)]
    have HEV : Hid _ := EV
    have HFW : Hid (cd.length ≤ 200) := CN.few.2
    have HFL : Hid (Fl w S C c cd.length p.1 p.2 ∧ (f < c ∧ f ≠ S ∧ f ≠ C) ∧ c ≤ w.heap.size ∧ Fr no w W ∧ W.heap[w.heap.size]? = some (.cells #[.int .i64 ins.1, .int .i64 ins.2] 26 (0, 0))) := ⟨FL, hf, hcw, G0, E0⟩
    have hyr : y.r = true := by rw [← hY]; rfl
    have H1 : Hid _ := h1
    have H2 : Hid _ := h2
    clear EV FL CN hcode hSP h1 h2 hgx hrl hx hr hfit h4 h5 hf
    generalize hcl : cd.length = n at *
    go_enter Tryz.func99, Tryz.ntmps99
    go_wp2_with fail
    refine RN.mono ?_
    rintro e w2 ⟨⟨sr, ⟨sla, sln, slc⟩, ⟨sta, stn, stc⟩, ⟨ska, skn, skc⟩⟩, rfl, hs, F2⟩
    obtain ⟨rfl, olo, ost, nlo, nst⟩ := hs trivial
    unfold saV
    simp only at olo ost nlo nst ⊢
    generalize hW3 : w2.alloc (.cells #[.bool true, .slice sla sln slc, .slice sta stn stc, .slice ska skn skc] 58) = W3
    have G3 : Fr no w2 W3 := by rw [← hW3]; exact (Fr.refl no w2).alloc _ _
    have E3 : W3.heap[w2.heap.size]? = some (.cells #[.bool true, .slice sla sln slc, .slice sta stn stc, .slice ska skn skc] 58 (0, 0)) := by rw [← hW3]; exact heap_alloc_new w2 _
    obtain ⟨FL, hf, hcw, G0, E0⟩ := HFL.out
    have FW2 : Fr no W W3 := F2.new G3 (fun _ _ f => f)
    have FW : Fr no w W3 := G0.new FW2 (fun _ _ f => f)
    have hWs : w.heap.size < W.heap.size := lt_of_heap E0
    have hWs2 := F2.size
    have ST := HST.out W3 (nm FW)
    have b0 := (bx2 (FW2.heap E0 (fun f => f))).1
    obtain ⟨z0, z1, z2, z3⟩ := box4 E3
    have HB : Hid (OwnG elTy W3 (.slice sla sln slc) y.lo ∧ OwnG elTy W3 (.slice sta stn stc) y.st ∧ NewV W (.slice sla sln slc) ∧ NewV W (.slice sta stn stc) ∧ W3.heap[w.heap.size]? = some (.cells #[.int .i64 ins.1, .int .i64 ins.2] 26 (0, 0)) ∧ W3.heap[w2.heap.size]? = some (.cells #[.bool true, .slice sla sln slc, .slice sta stn stc, .slice ska skn skc] 58 (0, 0)) ∧ Fr no w W3 ∧ w.heap.size < W.heap.size ∧ W.heap.size ≤ w2.heap.size) := ⟨olo.keep G3, ost.keep G3, nlo, nst, FW2.heap E0 (fun f => f), E3, FW, hWs, hWs2⟩
    clear RN olo ost nlo nst F2 G3 E3 FW2 hWs hWs2 E0
    cases hstp : has ins.1 1 with
    | true =>
      have HA1 : Hid (after1 K ins y i p = (0, p)) := by show _ = _; unfold after1; rw [if_neg (by rw [hstp]; simp)]
      rw [hstp] at ST
      have JP := HJP.out W3 (nm FW)
      have HD := HHD.out W3 (nm FW)
      clear FL G0
      cases hjp : has ins.1 2 with
      | false =>
        have HA2 : Hid (stepP K r ins i p = (0, p)) := by show _ = _; rw [HSP.out, HA1.out, if_neg (by simp)]; unfold after2; rw [if_neg (by rw [hjp]; simp)]
        rw [hjp] at JP
        clear FW
        go_wp2_with fail
        refine ST.mono ?_
        rintro e w4 ⟨rfl, rfl⟩
        go_wp2_with fail
        refine JP.mono ?_
        rintro e w4 ⟨rfl, rfl⟩
        go_wp2_with fail
        refine HD.mono ?_
        rintro e w4 ⟨rfl, rfl⟩
        go_wp2_with fail
        go_ret
        rw [HA2.out]
        exact ⟨rfl, fun _ => HFL.out.1.keep HB.out.2.2.2.2.2.2.1, nm HB.out.2.2.2.2.2.2.1⟩
      | true =>
        rw [hjp] at JP
        obtain ⟨j0, j1, j2, -⟩ := H2.out hjp
        obtain ⟨m, hm⟩ : ∃ m : Nat, ins.2 = (m : Int) := ⟨ins.2.toNat, by omega⟩
        have hmn : m < n := by omega
        rw [HA1.out, hm, Int.toNat_natCast] at j2
        simp only at j2
        have hfl := HFL.out.1
        obtain ⟨xm, hxm⟩ : ∃ xm, p.1[m]? = some xm := ⟨_, List.getElem?_eq_getElem (by have := hfl.lx; omega)⟩
        obtain ⟨bm, hbm⟩ : ∃ bm, p.2[m]? = some bm := ⟨_, List.getElem?_eq_getElem (by have := hfl.lc; omega)⟩
        rw [getD_of hxm zS] at j2
        have RC := reach_any W3 f S C c K cd rl p.1 p.2 (fun w' h => HEV.out w' (tt (nm HB.out.2.2.2.2.2.2.1) h)) w (hcl ▸ hfl) HB.out.2.2.2.2.2.2.1 HFL.out.2.2.1 HFL.out.2.1 m (by omega) xm hxm ⟨true, ⟨sla, sln, slc⟩, ⟨sta, stn, stc⟩, ⟨ska, skn, skc⟩⟩ y rfl hyr (HB.out.1.sl okTy) (HB.out.2.1.sl okTy) hy (fun _ ad e => by
          have e' : sla = some ad := e
          have := HB.out.2.2.1 ad.block (by rw [e']; rfl)
          have := HB.out.2.2.2.2.2.2.2.1
          omega) j2 bm hbm
        unfold saV at RC
        simp only at RC
        have HA2 : Hid (stepP K r ins i p = (reachErr K xm y, (p.1.set m (reachX xm y), p.2.set m (reachC xm y bm)))) := by
          show _ = _
          rw [HSP.out, HA1.out, if_neg (by simp)]
          unfold after2 rchE rch
          rw [if_pos hjp, hm, Int.toNat_natCast]
          simp only [getD_of hxm zS, getD_of hbm false]
        have HXM : Hid _ := hxm
        clear FW
        have b1 := (bx2 HB.out.2.2.2.2.1).2
        rw [hm] at b1
        go_wp2_with fail
        refine ST.mono ?_
        rintro e w4 ⟨rfl, rfl⟩
        go_wp2_with fail
        refine JP.mono ?_
        rintro e w4 ⟨rfl, rfl⟩
        go_wp2_with fail
        refine RC.mono ?_
        rintro e w5 ⟨rfl, hfl, f5⟩
        rw [hcl] at hfl
        have ff : Fr (Tn S C c) w w5 := tt (nm HB.out.2.2.2.2.2.2.1) (tm f5)
        have HD5 := HHD.out w5 ff
        have HQ : Hid _ := And.intro hfl ff
        clear hfl f5 ff RC
        generalize hre : reachErr K xm y = re at *
        by_cases hr0 : re = 0
        · subst hr0
          go_wp2_with fail
          refine HD5.mono ?_
          rintro e w6 ⟨rfl, rfl⟩
          go_wp2_with fail
          go_ret
          rw [HA2.out]
          exact ⟨rfl, fun _ => HQ.out.1 trivial, HQ.out.2⟩
        · have hr0' : (re == 0) = false := by simpa using hr0
          go_wp2_with fail
          go_ret
          rw [HA2.out]
          exact ⟨rfl, fun e => absurd e hr0, HQ.out.2⟩
    | false =>
      obtain ⟨k0, k1⟩ := H1.out hstp
      have hfl0 := HFL.out.1
      obtain ⟨x1, hx1⟩ : ∃ x1, p.1[i + 1]? = some x1 := ⟨_, List.getElem?_eq_getElem (by have := hfl0.lx; omega)⟩
      obtain ⟨bi, hbi⟩ : ∃ bi, p.2[i + 1]? = some bi := ⟨_, List.getElem?_eq_getElem (by have := hfl0.lc; omega)⟩
      rw [getD_of hx1 zS] at k1
      have RC := reach_any W3 f S C c K cd rl p.1 p.2 (fun w' h => HEV.out w' (tt (nm HB.out.2.2.2.2.2.2.1) h)) w (hcl ▸ hfl0) HB.out.2.2.2.2.2.2.1 HFL.out.2.2.1 HFL.out.2.1 (i + 1) (by omega) x1 hx1 ⟨true, ⟨sla, sln, slc⟩, ⟨sta, stn, stc⟩, ⟨ska, skn, skc⟩⟩ y rfl hyr (HB.out.1.sl okTy) (HB.out.2.1.sl okTy) hy (fun _ ad e => by
        have e' : sla = some ad := e
        have := HB.out.2.2.1 ad.block (by rw [e']; rfl)
        have := HB.out.2.2.2.2.2.2.2.1
        omega) k1 bi hbi
      unfold saV at RC
      simp only at RC
      rw [show ((i + 1 : Nat) : Int) = (i : Int) + 1 by omega] at RC
      have HA1 : Hid (after1 K ins y i p = (reachErr K x1 y, (p.1.set (i + 1) (reachX x1 y), p.2.set (i + 1) (reachC x1 y bi)))) := by
        show _ = _
        unfold after1 rchE rch
        rw [if_pos hstp]
        simp only [getD_of hx1 zS, getD_of hbi false]
      rw [hstp] at ST
      have hi1 : (i : Int) + 1 ≤ 1000 := by have := HFW.out; omega
      clear FL G0 FW hfl0 k1
      generalize hre : reachErr K x1 y = re at *
      by_cases hr0 : re = 0
      · subst hr0
        go_wp2_with fail
        refine ST.mono ?_
        rintro e w4 ⟨rfl, rfl⟩
        go_wp2_with fail
        refine RC.mono ?_
        rintro e w5 ⟨rfl, hfl, f5⟩
        rw [hcl] at hfl
        have hfl5 := hfl trivial
        have ff : Fr (Tn S C c) w w5 := tt (nm HB.out.2.2.2.2.2.2.1) (tm f5)
        have HD5 := HHD.out w5 ff
        have JP := HJP.out w5 ff
        have nwb : ∀ {b : Nat}, w.heap.size ≤ b → c ≤ b → ¬ Tn2 S C c w.heap.size b := fun {b} h1 h2 e => by
          have hlt := HFL.out.1.lt
          rcases e with e | e | e <;> omega
        have hcw' := HFL.out.2.2.1
        obtain ⟨B1, B2, B3, B4, B5, B6, -, B8, B9⟩ := HB.out
        have c5 := f5.heap B5 (nwb (Nat.le_refl _) hcw')
        have d5 := f5.heap B6 (nwb (by omega) (by omega))
        have o5 : OwnG elTy w5 (.slice sla sln slc) y.lo := B1.kept f5 (fun k hk => nwb (by have := B3 k hk; omega) (by have := B3 k hk; omega))
        have p5 : OwnG elTy w5 (.slice sta stn stc) y.st := B2.kept f5 (fun k hk => nwb (by have := B4 k hk; omega) (by have := B4 k hk; omega))
        have y0 := (bx2 c5).1
        have y1 := (bx2 c5).2
        obtain ⟨u0, u1, u2, u3⟩ := box4 d5
        cases hjp : has ins.1 2 with
        | false =>
          have HA2 : Hid (stepP K r ins i p = (0, (p.1.set (i + 1) (reachX x1 y), p.2.set (i + 1) (reachC x1 y bi)))) := by show _ = _; rw [HSP.out, HA1.out, if_neg (by simp)]; unfold after2; rw [if_neg (by rw [hjp]; simp)]
          rw [hjp] at JP
          have HQ : Hid _ := And.intro hfl5 ff
          clear hfl hfl5 f5 ff RC c5 d5 o5 p5 B1 B2 B3 B4 B5 B6
          go_wp2_with fail
          refine JP.mono ?_
          rintro e w6 ⟨rfl, rfl⟩
          go_wp2_with fail
          refine HD5.mono ?_
          rintro e w6 ⟨rfl, rfl⟩
          go_wp2_with fail
          go_ret
          rw [HA2.out]
          exact ⟨rfl, fun _ => HQ.out.1, HQ.out.2⟩
        | true =>
          rw [hjp] at JP
          obtain ⟨j0, j1, j2, j3⟩ := H2.out hjp
          obtain ⟨m, hm⟩ : ∃ m : Nat, ins.2 = (m : Int) := ⟨ins.2.toNat, by omega⟩
          have hmn : m < n := by omega
          rw [HA1.out, hm, Int.toNat_natCast] at j2 j3
          simp only at j2 j3
          obtain ⟨xm, hxm⟩ : ∃ xm, (p.1.set (i + 1) (reachX x1 y))[m]? = some xm := ⟨_, List.getElem?_eq_getElem (by have := hfl5.lx; omega)⟩
          obtain ⟨bm, hbm⟩ : ∃ bm, (p.2.set (i + 1) (reachC x1 y bi))[m]? = some bm := ⟨_, List.getElem?_eq_getElem (by have := hfl5.lc; omega)⟩
          rw [getD_of hxm zS] at j2 j3
          have hcw5 : c ≤ w5.heap.size := Nat.le_trans hcw' ff.size
          have RC2 := reach_any w5 f S C c K cd rl _ _ (fun w' h => HEV.out w' (tt ff h)) w5 (hcl ▸ hfl5) (Fr.refl no w5) hcw5 HFL.out.2.1 m (by omega) xm hxm ⟨true, ⟨sla, sln, slc⟩, ⟨sta, stn, stc⟩, ⟨ska, skn, skc⟩⟩ y rfl hyr (o5.sl okTy) (p5.sl okTy) hy (fun e => absurd e (by rw [j3 hstp]; simp)) j2 bm hbm
          unfold saV at RC2
          simp only at RC2
          have HA2 : Hid (stepP K r ins i p = (reachErr K xm y, ((p.1.set (i + 1) (reachX x1 y)).set m (reachX xm y), (p.2.set (i + 1) (reachC x1 y bi)).set m (reachC xm y bm)))) := by
            show _ = _
            rw [HSP.out, HA1.out, if_neg (by simp)]
            unfold after2 rchE rch
            rw [if_pos hjp, hm, Int.toNat_natCast]
            simp only [getD_of hxm zS, getD_of hbm false]
          rw [hm] at y1
          have HFF : Hid _ := ff
          clear hfl hfl5 f5 ff RC c5 d5 o5 p5 B1 B2 B3 B4 B5 B6 hre HD5
          generalize hre : reachErr K xm y = re at *
          by_cases hr1 : re = 0
          · subst hr1
            go_wp2_with fail
            refine JP.mono ?_
            rintro e w6 ⟨rfl, rfl⟩
            go_wp2_with fail
            refine RC2.mono ?_
            rintro e w7 ⟨rfl, hf7, f7⟩
            rw [hcl] at hf7
            have ff7 : Fr (Tn S C c) w w7 := tt HFF.out (tm f7)
            have HD7 := HHD.out w7 ff7
            have HQ : Hid _ := And.intro (hf7 trivial) ff7
            clear hf7 f7 ff7 RC2
            go_wp2_with fail
            refine HD7.mono ?_
            rintro e w8 ⟨rfl, rfl⟩
            go_wp2_with fail
            go_ret
            rw [HA2.out]
            exact ⟨rfl, fun _ => HQ.out.1, HQ.out.2⟩
          · have hr1' : (re == 0) = false := by simpa using hr1
            go_wp2_with fail
            refine JP.mono ?_
            rintro e w6 ⟨rfl, rfl⟩
            go_wp2_with fail
            refine RC2.mono ?_
            rintro e w7 ⟨rfl, -, f7⟩
            have HQ : Hid (Fr (Tn S C c) w w7) := tt HFF.out (tm f7)
            clear f7 RC2
            go_wp2_with fail
            go_ret
            rw [HA2.out]
            exact ⟨rfl, fun e => absurd e hr1, HQ.out⟩
      · have hr0' : (re == 0) = false := by simpa using hr0
        have HA2 : Hid (stepP K r ins i p = (re, (p.1.set (i + 1) (reachX x1 y), p.2.set (i + 1) (reachC x1 y bi)))) := by show _ = _; rw [HSP.out, HA1.out, if_pos hr0]
        go_wp2_with fail
        refine ST.mono ?_
        rintro e w4 ⟨rfl, rfl⟩
        go_wp2_with fail
        refine RC.mono ?_
        rintro e w5 ⟨rfl, -, f5⟩
        have HQ : Hid (Fr (Tn S C c) w w5) := tt (nm HB.out.2.2.2.2.2.2.1) (tm f5)
        clear f5 RC
        go_wp2_with fail
        go_ret
        rw [HA2.out]
        exact ⟨rfl, fun e => absurd e hr0, HQ.out⟩
  · have HSP : Hid (stepP K r ins i p = (ee, p)) := by show _ = _; rw [hSP, if_pos he]
    have hee : (ee == 0) = false := by simpa using he
    have HNE : Hid (ee ≠ 0) := he
    have HG : Hid (Fr no w W) := G0
    clear EV FL CN hcode hSP h1 h2 hgx hrl hx hr hfit h4 h5 hf
    generalize hcl : cd.length = n at *
    go_enter Tryz.func99, Tryz.ntmps99
    go_wp2_with fail
    refine RN.mono ?_
    rintro e w2 ⟨⟨sr, ⟨sla, sln, slc⟩, ⟨sta, stn, stc⟩, ⟨ska, skn, skc⟩⟩, rfl, -, F2⟩
    have HZ : Hid (Fr no w w2) := HG.out.new F2 (fun _ _ f => f)
    unfold saV
    clear RN F2
    go_wp2_with fail
    go_ret
    rw [HSP.out]
    exact ⟨rfl, fun e => absurd e HNE.out, nm (HZ.out.alloc _ _)⟩
end Go.Proofs.YtpfkigoffllieaaGreatDoor

/- States that settle. -/
namespace Go.Proofs.YtpfkigoffllieaaGreatDoor
open Go.ChangeShapes Go.WideShapes Go.ChangeAt Go.RowKit
open H (ix NewV)

theorem least {P : Nat → Prop} : ∀ n, P n → ∃ m, P m ∧ ∀ k, P k → m ≤ k := by
  intro n
  induction n using Nat.strongRecOn with
  | _ n ih =>
    intro hn
    by_cases h : ∃ k, k < n ∧ P k
    · obtain ⟨k, hk, hp⟩ := h
      exact ih k hk hp
    · exact ⟨n, hn, fun k hk => Nat.le_of_not_lt fun e => h ⟨k, e, hk⟩⟩

section
variable {P : Program} {a : Act} {w : World} {Q : Exit → Act → World → Prop}
open Classical in
theorem wp_label_fuel {c R0 : Code} (l0 : Nat) (J : Nat → Act → World → Prop) (hf0 : findLabel c l0 = some (.seq .skip R0))
    (first : ∀ K : Exit → Act → World → Prop, (∀ n a w, J n a w → R0.wp P K a w) → (∀ a w, Q .ret a w → K .ret a w) → (∀ a w, Q .normal a w → K .normal a w) → c.wp P K a w)
    (pass0 : ∀ n a w, J n a w → ∀ K : Exit → Act → World → Prop, (∀ m a' w', m < n → J m a' w' → K (.goto l0) a' w') → (∀ a w, Q .ret a w → K .ret a w) → (∀ a w, Q .normal a w → K .normal a w) → R0.wp P K a w) :
    (Code.scope c).wp P Q a w := by
  have mn : ∀ a w, (∃ n, J n a w) → ∃ m, J m a w ∧ ∀ k, J k a w → m ≤ k := fun a w ⟨n, h⟩ => least n h
  refine wp_label_one l0 (fun a w => ∃ n, J n a w) (fun a w => if h : ∃ n, J n a w then Classical.choose (mn a w h) else 0) hf0 ?_ ?_
  · intro K h0 hr hn
    exact first K (fun n a w h => h0 a w ⟨n, h⟩) hr hn
  · rintro a w h K hj hr hn
    have hs := Classical.choose_spec (mn a w h)
    refine pass0 _ a w hs.1 K (fun m a' w' hm hJ => hj a' w' ⟨m, hJ⟩ ?_) hr hn
    rw [dif_pos h, dif_pos ⟨m, hJ⟩]
    exact Nat.lt_of_le_of_lt ((Classical.choose_spec (mn a' w' ⟨m, hJ⟩)).2 m hJ) hm
end

theorem Fl.mark {w : World} {S C c n : Nat} {xs : List Stt} {ch : List Bool} (h : Fl w S C c n xs ch) {i : Nat} (hi : i < ch.length) (b : Bool) : Fl (w.setCell ⟨C, i, none⟩ (.bool b)) S C c n xs (ch.set i b) := by
  have F : Fr (fun k => k = C) w (w.setCell ⟨C, i, none⟩ (.bool b)) := (Fr.refl (fun k => k = C) w).setCell (p := ⟨C, i, none⟩) (fun _ => rfl) _
  obtain ⟨⟨ss, h1, h2, h3, h4⟩, h5, h6, h7, h8⟩ := h
  refine ⟨⟨ss, h1.kept F (fun k hk e => by simp [Value.ownBlock] at hk; omega), h2, fun j s x hs hx => ?_, h4⟩, h5.set1 hi b, h6, by rw [List.length_set]; exact h7, h8⟩
  obtain ⟨a1, a2, a3, a4, a5⟩ := h3 j s x hs hx
  exact ⟨a1, fun e => ⟨(a2 e).1.kept F (fun k hk e' => by have := (a2 e).2 k hk; omega), (a2 e).2⟩, fun e => ⟨(a3 e).1.kept F (fun k hk e' => by have := (a3 e).2 k hk; omega), (a3 e).2⟩, a4, a5⟩

def zR : Rl := ⟨false, [], []⟩
def okR' (x y : Stt) : Prop := x.r = true → x.st.length = y.st.length → x.st = [] ∧ y.st = [] ∧ x.lo.length = y.lo.length ∧ 0 < x.lo.length ∧ ∀ q ∈ x.lo.zip y.lo, mrg q.1 q.2
instance (a b : Ty) : Decidable (mrg a b) := by unfold mrg; infer_instance
instance (x y : Stt) : Decidable (okR' x y) := by unfold okR'; infer_instance
theorem okR_of {x y : Stt} (h : okR' x y) : okR x y := fun h1 h2 => by
  obtain ⟨a1, a2, a3, a4, a5⟩ := h h1 h2
  refine ⟨a1, a2, a3, a4, fun i a b ha hb => ?_⟩
  have : (x.lo.zip y.lo)[i]? = some (a, b) := by rw [List.getElem?_zip_eq_some]; exact ⟨ha, hb⟩
  exact a5 (a, b) (List.mem_of_getElem? this)

/-- What one asks of a step ahead of it. -/
structure OkS (K : Int) (cd : List (Int × Int)) (r : Rl) (ins : Int × Int) (i : Nat) (p : Ps) (x : Stt) : Prop where
  rr : x.r = true
  fit : ∀ t ∈ r.tk, t.k = 1 ∨ t.k = 2 ∨ t.k = 6
  n38 : rd38 ins x.lo
  n7 : ins.1 ≠ 7
  h4 : ins.1 = 4 → 0 ≤ ins.2 ∧ ins.2 < x.lo.length
  h5 : ins.1 = 5 → 0 ≤ ins.2 ∧ ins.2 < x.lo.length ∧ r.tk.length = 1
  few : r.tk.length ≤ 1000 ∧ r.pt.length ≤ 1000 ∧ (runS r ins x).lo.length ≤ 1000 ∧ (runS r ins x).st.length ≤ 1000
  h1 : has ins.1 1 = false → i + 1 < cd.length ∧ okR' (p.1.getD (i + 1) zS) (runS r ins x)
  h2 : has ins.1 2 = true → 0 ≤ ins.2 ∧ ins.2 < cd.length ∧ okR' ((after1 K ins (runS r ins x) i p).2.1.getD ins.2.toNat zS) (runS r ins x) ∧ (has ins.1 1 = false → ((after1 K ins (runS r ins x) i p).2.1.getD ins.2.toNat zS).r = false)
instance (K : Int) (cd : List (Int × Int)) (r : Rl) (ins : Int × Int) (i : Nat) (p : Ps) (x : Stt) : Decidable (OkS K cd r ins i p x) :=
  decidable_of_iff (x.r = true ∧ (∀ t ∈ r.tk, t.k = 1 ∨ t.k = 2 ∨ t.k = 6) ∧ rd38 ins x.lo ∧ ins.1 ≠ 7 ∧ (ins.1 = 4 → 0 ≤ ins.2 ∧ ins.2 < x.lo.length) ∧ (ins.1 = 5 → 0 ≤ ins.2 ∧ ins.2 < x.lo.length ∧ r.tk.length = 1) ∧ (r.tk.length ≤ 1000 ∧ r.pt.length ≤ 1000 ∧ (runS r ins x).lo.length ≤ 1000 ∧ (runS r ins x).st.length ≤ 1000) ∧ (has ins.1 1 = false → i + 1 < cd.length ∧ okR' (p.1.getD (i + 1) zS) (runS r ins x)) ∧ (has ins.1 2 = true → 0 ≤ ins.2 ∧ ins.2 < cd.length ∧ okR' ((after1 K ins (runS r ins x) i p).2.1.getD ins.2.toNat zS) (runS r ins x) ∧ (has ins.1 1 = false → ((after1 K ins (runS r ins x) i p).2.1.getD ins.2.toNat zS).r = false)))
    ⟨fun ⟨a, b, c, d, e, f, g, h, i⟩ => ⟨a, b, c, d, e, f, g, h, i⟩, fun ⟨a, b, c, d, e, f, g, h, i⟩ => ⟨a, b, c, d, e, f, g, h, i⟩⟩

/-- Steps, as long as a state has changed; so many at most. -/
def settleP (K : Int) (cd : List (Int × Int)) (rl : List Rl) : Nat → Nat → Ps → Option (Int × Ps)
  | 0, _, _ => none
  | n + 1, i, p =>
    if p.2.contains true = false then some (0, p)
    else if p.2.getD i false = true then
      if OkS K cd (rl.getD i zR) (cd.getD i (0, 0)) i (p.1, p.2.set i false) (p.1.getD i zS) then
        if (stepP K (rl.getD i zR) (cd.getD i (0, 0)) i (p.1, p.2.set i false)).1 ≠ 0 then some (stepP K (rl.getD i zR) (cd.getD i (0, 0)) i (p.1, p.2.set i false))
        else settleP K cd rl n ((i + 1) % cd.length) (stepP K (rl.getD i zR) (cd.getD i (0, 0)) i (p.1, p.2.set i false)).2
      else none
    else settleP K cd rl n ((i + 1) % cd.length) p

/-- At the label. -/
def SetAt (w : World) (f S C c : Nat) (K : Int) (cd : List (Int × Int)) (rl : List Rl) (res : Int × Ps) (n : Nat) (a : Act) (wr : World) : Prop :=
  ∃ (i : Nat) (p : Ps) (u4 u5 u6 u7 u8 u9 u10 u11 u12 u13 u14 u15 u16 u17 u18 u19 u20 u21 u22 u23 u24 u25 u26 u27 u28 u29 u30 u31 u32 u33 u34 u35 u36 u37 : Value), a = { tmps := #[.pointer (some ⟨f, 0, none⟩), undef, .int .i64 0, .int .i64 (i : Int), u4, u5, u6, u7, u8, u9, u10, u11, u12, u13, u14, u15, u16, u17, u18, u19, u20, u21, u22, u23, u24, u25, u26, u27, u28, u29, u30, u31, u32, u33, u34, u35, u36, u37], defers := [] } ∧ i < cd.length ∧ settleP K cd rl n i p = some res ∧ Fl wr S C c cd.length p.1 p.2 ∧ Fr (Tn S C c) w wr

set_option maxRecDepth 100000 in
set_option maxHeartbeats 8000000 in
theorem settle_any (w : World) (f S C c : Nat) (K : Int) (cd : List (Int × Int)) (rl : List Rl) (p : Ps) (EV : ∀ w', Fr (Tn S C c) w w' → Con w' f S C K cd rl) (FL : Fl w S C c cd.length p.1 p.2) (hcw : c ≤ w.heap.size) (hf : f < c ∧ f ≠ S ∧ f ≠ C) (fuel : Nat) (res : Int × Ps) (hres : settleP K cd rl fuel 0 p = some res) :
    Calls Tryz.prog 59 #[.pointer (some ⟨f, 0, none⟩)] w fun e w' => e = .returned (.int .i64 res.1) ∧ (res.1 = 0 → Fl w' S C c cd.length res.2.1 res.2.2) ∧ Fr (Tn S C c) w w' := by
  have tt : ∀ {a b c' : World}, Fr (Tn S C c) a b → Fr (Tn S C c) b c' → Fr (Tn S C c) a c' := fun h k => h.trans k (fun _ _ e => e) (fun _ _ e => e)
  have HEV : Hid _ := EV
  have CN := EV w (Fr.refl _ w)
  have HL : Hid (0 < cd.length ∧ cd.length ≤ 200) := CN.few
  have HI : Hid (Fl w S C c cd.length p.1 p.2 ∧ settleP K cd rl fuel 0 p = some res) := ⟨FL, hres⟩
  clear EV CN FL hres
  go_enter Tryz.func59, Tryz.ntmps59
  go_wp2_with fail
  refine wp_label_fuel 0 (SetAt w f S C c K cd rl res) rfl ?_ ?_
  · intro KK h0 hr hn'
    go_wp2_with fail
    go_step3
    rename_i hk
    exact hk _ _ (h0 fuel _ _ ⟨0, p, _, _, _, _, _, _, _, _, _, _, _, _, _, _, _, _, _, _, _, _, _, _, _, _, _, _, _, _, _, _, _, _, _, _, rfl, HL.out.1, HI.out.2, HI.out.1, Fr.refl _ _⟩)
  · rintro n a' wr ⟨i, q, u4, u5, u6, u7, u8, u9, u10, u11, u12, u13, u14, u15, u16, u17, u18, u19, u20, u21, u22, u23, u24, u25, u26, u27, u28, u29, u30, u31, u32, u33, u34, u35, u36, u37, rfl, hi, hs, FL, fr⟩ KK hj hr hn'
    have CN := HEV.out wr fr
    have a12 := CN.marks
    have hii : (i : Int) < (cd.length : Int) := by omega
    have CB := containsB_any wr _ _ FL.marks.sl true
    have hcw' : c ≤ wr.heap.size := Nat.le_trans hcw fr.size
    cases n with
    | zero => simp [settleP] at hs
    | succ n =>
      unfold settleP at hs
      by_cases hct : q.2.contains true = false
      · rw [if_pos hct] at hs
        simp only [Option.some.injEq] at hs
        subst hs
        rw [hct] at CB
        have HZ : Hid (_ ∧ _) := ⟨FL, fr⟩
        clear FL fr CN
        generalize hcl : cd.length = m at *
        go_wp2_with fail
        refine CB.mono ?_
        rintro e w1 ⟨rfl, rfl⟩
        go_wp2_with fail
        refine hr _ _ ?_
        go_ret
        exact ⟨rfl, fun _ => by rw [hcl]; exact HZ.out.1, HZ.out.2⟩
      · rw [if_neg hct] at hs
        have hct' : q.2.contains true = true := by simpa using hct
        rw [hct'] at CB
        obtain ⟨b, hb⟩ : ∃ b, q.2[i]? = some b := ⟨_, List.getElem?_eq_getElem (by have := FL.lc; omega)⟩
        rw [getD_of hb false] at hs
        have hcm : wr.cell? ⟨C, i, none⟩ = some (.bool b) := by
          obtain ⟨ad, cap, e, -, -, -, hit⟩ := FL.marks.sl
          simp only [Value.slice.injEq] at e
          obtain ⟨rfl, -, -⟩ := e
          obtain ⟨bb, off, e, hc⟩ := hit i b hb
          simp only [Option.some.injEq, Addr.mk.injEq, and_true] at e
          obtain ⟨rfl, rfl⟩ := e
          rw [Nat.zero_add] at hc
          exact hc
        have hmod : ((i : Int) + 1) % (cd.length : Int) = (((i + 1) % cd.length : Nat) : Int) := by rw [Int.natCast_emod]; rfl
        have hmodlt : (i + 1) % cd.length < cd.length := Nat.mod_lt _ (by omega)
        have hl200 := HL.out.2
        cases b with
        | false =>
          rw [if_neg (by simp)] at hs
          have HZ : Hid (_ ∧ _ ∧ _ ∧ _) := ⟨FL, fr, hs, hmodlt⟩
          clear FL fr CN hs hb hct hct' hmodlt
          generalize hcl : cd.length = m at *
          go_wp2_with fail
          refine CB.mono ?_
          rintro e w1 ⟨rfl, rfl⟩
          go_wp2_with fail
          rw [hmod]
          refine wp_goto ?_
          refine hj n _ _ (Nat.lt_succ_self n) ⟨(i + 1) % m, q, _, _, _, _, _, _, _, _, _, _, _, _, _, _, _, _, _, _, _, _, _, _, _, _, _, _, _, _, _, _, _, _, _, _, rfl, by rw [hcl]; exact HZ.out.2.2.2, HZ.out.2.2.1, by rw [hcl]; exact HZ.out.1, HZ.out.2.1⟩
        | true =>
          rw [if_pos rfl] at hs
          by_cases hok : OkS K cd (rl.getD i zR) (cd.getD i (0, 0)) i (q.1, q.2.set i false) (q.1.getD i zS)
          · rw [if_pos hok] at hs
            obtain ⟨x, hx⟩ : ∃ x, q.1[i]? = some x := ⟨_, List.getElem?_eq_getElem (by have := FL.lx; omega)⟩
            obtain ⟨r, hrl⟩ : ∃ r, rl[i]? = some r := ⟨_, List.getElem?_eq_getElem (by obtain ⟨_, _, _, _, _, h, _⟩ := CN.rules; omega)⟩
            obtain ⟨ins, hins⟩ : ∃ ins, cd[i]? = some ins := ⟨_, List.getElem?_eq_getElem hi⟩
            rw [getD_of hx zS, getD_of hrl zR, getD_of hins (0, 0)] at hok
            rw [getD_of hrl zR, getD_of hins (0, 0)] at hs
            have hmt : ∃ mc, wr.heap[C]? = some (.cells mc 4 (0, 0)) := by
              rcases FL.marks.2 with ⟨e, _⟩ | ⟨g', cap', mc, e, _, hg, _⟩
              · simp at e
              · simp only [Value.slice.injEq, Option.some.injEq, Addr.mk.injEq, and_true] at e
                obtain ⟨rfl, -, -⟩ := e
                exact ⟨mc, hg⟩
            obtain ⟨mc, hmc⟩ := hmt
            have fz := frozen_at (o := i) hmc
            generalize hW2 : wr.setCell ⟨C, i, none⟩ (.bool false) = W2
            have F2 : Fr (fun k => k = C) wr W2 := by rw [← hW2]; exact (Fr.refl (fun k => k = C) wr).setCell (p := ⟨C, i, none⟩) (fun _ => rfl) _
            have F2T : Fr (Tn S C c) wr W2 := F2.mono (fun _ _ e => .inr (.inl e))
            have FL2 : Fl W2 S C c cd.length q.1 (q.2.set i false) := by
              have := FL.mark (i := i) (by have := FL.lc; omega) false
              rw [hW2] at this
              exact this
            have SP := step_any W2 f S C c K cd rl (q.1, q.2.set i false) (fun w' h => HEV.out w' (tt (tt fr F2T) h)) FL2 (Nat.le_trans hcw' F2.size) hf i x hx hok.rr r hrl hok.fit ins hins hok.n38 hok.n7 hok.h4 hok.h5 hok.few.1 hok.few.2.1 ⟨hok.few.2.2.1, hok.few.2.2.2⟩ (fun h => ⟨(hok.h1 h).1, okR_of (hok.h1 h).2⟩) (fun h => ⟨(hok.h2 h).1, (hok.h2 h).2.1, okR_of (hok.h2 h).2.2.1, (hok.h2 h).2.2.2⟩)
            generalize hST : stepP K r ins i (q.1, q.2.set i false) = st at *
            have HFR : Hid (Fr (Tn S C c) w W2) := tt fr F2T
            have HML : Hid _ := hmodlt
            have a12b := (HEV.out W2 (tt fr F2T)).marks
            clear FL fr CN hb hct hct' hmodlt FL2 F2 F2T hok hx hrl hins hmc hST
            by_cases hz : st.1 = 0
            · rw [if_neg (by rw [hz]; simp)] at hs
              rw [hz] at SP
              have HS : Hid _ := hs
              clear hs
              generalize hcl : cd.length = m at *
              go_wp2_with fail
              refine CB.mono ?_
              rintro e w1 ⟨rfl, rfl⟩
              go_wp2_with fail
              refine SP.mono ?_
              rintro e w3 ⟨rfl, hfl, f3⟩
              have a12c := (HEV.out w3 (tt HFR.out f3)).marks
              rw [hcl] at a12c
              have HZ : Hid (_ ∧ _) := ⟨hfl trivial, tt HFR.out f3⟩
              clear SP hfl f3
              go_wp2_with fail
              rw [hmod]
              refine wp_goto ?_
              refine hj n _ _ (Nat.lt_succ_self n) ⟨(i + 1) % m, st.2, _, _, _, _, _, _, _, _, _, _, _, _, _, _, _, _, _, _, _, _, _, _, _, _, _, _, _, _, _, _, _, _, _, _, rfl, by rw [hcl]; exact HML.out, HS.out, by rw [hcl]; exact HZ.out.1, HZ.out.2⟩
            · rw [if_pos hz] at hs
              simp only [Option.some.injEq] at hs
              have hz' : (st.1 == 0) = false := by simpa using hz
              have HS : Hid _ := hs
              clear hs
              generalize hcl : cd.length = m at *
              go_wp2_with fail
              refine CB.mono ?_
              rintro e w1 ⟨rfl, rfl⟩
              go_wp2_with fail
              refine SP.mono ?_
              rintro e w3 ⟨rfl, -, f3⟩
              have HZ : Hid (Fr (Tn S C c) w w3) := tt HFR.out f3
              clear SP f3
              go_wp2_with fail
              refine hr _ _ ?_
              go_ret
              rw [← HS.out]
              exact ⟨rfl, fun e => absurd e hz, HZ.out⟩
          · rw [if_neg hok] at hs
            simp at hs
end Go.Proofs.YtpfkigoffllieaaGreatDoor

/- Rules of instructions. -/
namespace Go.Proofs.YtpfkigoffllieaaGreatDoor
open Go.ChangeShapes Go.WideShapes Go.ChangeAt Go.RowKit
open H (ix NewV)

def elJ : H.El Int := ⟨41, 3, .int .i64 0, 8, fun n => .int .i64 n⟩
def kT (k : Int) : Ty := ⟨k, e0⟩
def z0 : Ty := ⟨0, e0⟩

theorem made_ty (w : World) (n : Nat) (h : n = 1 ∨ n = 2) : (Instr.makeSlice 56 (.int .i64 (n : Int)) (.int .i64 (n : Int))).run Tryz.prog w = .ok (.slice (some ⟨w.heap.size, 0, none⟩) n n) (w.alloc (.cells (madeCells #[.int .i64 0, .string ⟨#[]⟩] (n * 2)) 55)) := by
  have hK := okTy
  obtain ⟨i0, hi, hz0, hz1, hz2⟩ := info_parts hK.info
  have := _root_.Go.run_make w elTy.t elTy.e i0 elTy.z hK.und hi hz0 .i64 .i64 (n : Int) (n : Int) (by omega) (by omega) (by rw [hz2]; show (24 : Int) * _ ≤ _; omega) (by omega)
  rw [hz1] at this
  have h2 : (Instr.makeSlice elTy.t (.int .i64 (n : Int)) (.int .i64 (n : Int))).run Tryz.prog w = .ok (.slice (some ⟨w.heap.size, 0, none⟩) n n) (w.alloc (.cells (madeCells elTy.z.cells (n * elTy.n)) elTy.e)) := by simpa using this
  exact h2

theorem made_own (w : World) (n : Nat) (h : n = 1 ∨ n = 2) : OwnG elTy (w.alloc (.cells (madeCells #[.int .i64 0, .string ⟨#[]⟩] (n * 2)) 55)) (.slice (some ⟨w.heap.size, 0, none⟩) n n) (List.replicate n z0) := by
  rcases h with rfl | rfl
  · exact own_heap okTy (List.replicate 1 z0) (heap_alloc_new w _) (by kernel_rfl) (show 1 ≤ maxLen by decide)
  · exact own_heap okTy (List.replicate 2 z0) (heap_alloc_new w _) (by kernel_rfl) (show 2 ≤ maxLen by decide)

set_option maxRecDepth 100000 in
set_option maxHeartbeats 4000000 in
theorem of_any (w : World) (v : Value) (ks : List Int) (hv : H.SlG elJ w v ks) (hn : ks.length = 1 ∨ ks.length = 2) (h4 : ∀ x ∈ ks, x ≠ 4) :
    Calls Tryz.prog 138 #[v] w fun e w' => e = .returned (.slice (some ⟨w.heap.size, 0, none⟩) ks.length ks.length) ∧ SlG elTy w' (.slice (some ⟨w.heap.size, 0, none⟩) ks.length ks.length) (ks.map kT) ∧ Fr no w w' := by
  obtain ⟨ad, cap, rfl, hl, hc, -, hit⟩ := hv
  have HI : Hid _ := hit
  have H4 : Hid _ := h4
  clear hit h4
  generalize hkl : ks.length = n at *
  have hmk := made_ty w n hn
  have hmo := made_own w n hn
  generalize hW : w.alloc (.cells (madeCells #[.int .i64 0, .string ⟨#[]⟩] (n * 2)) 55) = W at *
  have G0 : Fr no w W := by rw [← hW]; exact (Fr.refl no w).alloc _ _
  have HO : Hid (OwnG elTy W (.slice (some ⟨w.heap.size, 0, none⟩) n n) (List.replicate n z0) ∧ Fr no w W) := ⟨hmo, G0⟩
  clear hmo G0
  go_enter Tryz.func138, Tryz.ntmps138
  go_wp2_with fail
  go_loopw [11] (fun i wr => ∃ (k : Nat) (lk : List Ty), i = .int .i64 (k : Int) ∧ k ≤ n ∧ OwnG elTy wr (.slice (some ⟨w.heap.size, 0, none⟩) n n) lk ∧ lk = (ks.map kT).take k ++ (List.replicate n z0).drop k ∧ Fr no w wr) (fun i _ => n - (intOf i).toNat)
  case atStart => exact ⟨0, _, rfl, Nat.zero_le _, HO.out.1, by simp, HO.out.2⟩
  case round =>
    obtain ⟨k, lk, rfl, hkn, ol, hlk, fr⟩ := hrel
    by_cases hlt : k < n
    · have hki : (k : Int) < (n : Int) := by omega
      obtain ⟨x, hx⟩ : ∃ x, ks[k]? = some x := ⟨_, List.getElem?_eq_getElem (by omega)⟩
      obtain ⟨b, off, rfl, hcx⟩ := HI.out k x hx
      have zx := fr.cell hcx (fun f => f)
      simp only [elJ] at zx
      have hx4 := H4.out x (List.mem_of_getElem? hx)
      have hx4' : (x == 4) = false := by simpa using hx4
      have hka : lk[k]? = some z0 := by
        rw [hlk, List.getElem?_append_right (by rw [List.length_take]; omega), List.length_take, List.getElem?_drop, List.getElem?_replicate]
        rw [if_pos (by rw [List.length_map]; omega)]
      have o2 := ol.cell1 okTy (k := k) (j := 0) hka ⟨x, e0⟩ (.int .i64 x) (by decide) rfl
      have e2n : elTy.n = 2 := rfl
      rw [e2n, Nat.add_zero] at o2
      have hms := mix_set (ks.map kT) (List.replicate n z0) k (kT x) (by rw [List.getElem?_map, hx]; rfl) (by simp; omega)
      obtain ⟨lcur, hlcur⟩ := ol.tag (k := w.heap.size) rfl
      have fq := frozen_at (o := k * 2) hlcur
      obtain ⟨bb, oo, cp, e, q0, q1⟩ := ty_at (ol.sl okTy) hka
      simp only [Value.slice.injEq, Option.some.injEq, Addr.mk.injEq, and_true] at e
      obtain ⟨⟨rfl, rfl⟩, -, rfl⟩ := e
      simp only [Nat.zero_add] at q0
      have F3 : Fr no w (wr.setCell ⟨w.heap.size, k * 2, none⟩ (.int .i64 x)) := fr.setCell (fun h => absurd h (Nat.lt_irrefl _)) _
      rw [← hlk] at hms
      have HZ : Hid (_ ∧ _ ∧ _) := ⟨o2, hms, F3⟩
      clear ol hlk o2 hms F3 hlcur fr e2n q1 hx hka
      go_wp2_with fail
      go_roundw
      case rel => exact ⟨k + 1, _, by go_num, by omega, HZ.out.1, HZ.out.2.1, HZ.out.2.2⟩
      case measure => simp [intOf]; omega
    · have hkn' : k = n := by omega
      have hki : ¬ (k : Int) < (n : Int) := by omega
      have hfin : lk = ks.map kT := by
        rw [hlk, hkn', List.take_of_length_le (by rw [List.length_map]; omega), List.drop_of_length_le (by simp), List.append_nil]
      have HZ : Hid (_ ∧ _) := ⟨hfin ▸ ol.sl okTy, fr⟩
      clear ol hlk hfin fr
      go_wp2_with fail
      go_ret
      exact ⟨rfl, HZ.out⟩
end Go.Proofs.YtpfkigoffllieaaGreatDoor
