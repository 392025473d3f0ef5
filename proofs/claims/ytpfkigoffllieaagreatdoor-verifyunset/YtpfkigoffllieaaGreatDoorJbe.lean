/- The statements' first question: two small programs, one that is accepted and one that isn't. -/
import Derived.Test.YtpfkigoffllieaaGreatDoorJbd
import Derived.Test.YtpfkigoffllieaaGreatDoorRows
import Derived.Test.YtpfkigoffllieaaGreatDoorJaq
import Derived.ProofKit
import Derived.LaidMore
import Derived.OpenShut
import Derived.Stop.Joined
import Derived.Stop.LaidErr
import Derived.Lib.LaidTab
import Derived.Deep.Slices
import Derived.Deep.Grids
import Derived.Carry
namespace Go.Proofs.YtpfkigoffllieaaGreatDoor
open Go.ChangeShapes Go.WideShapes Go.ChangeAt Go.RowKit
open H (ky Owns MapOf ix NewV)

def k1 : List (Int × Int) := [(3, 0), (5, 1), (33, 0)]
def k2 : List (Int × Int) := [(3, 0), (8, 0), (33, 0)]
theorem nopool : ∀ x ∈ ([] : List Cs), fitS x.c ∧ fitS x.m := fun x hx => by simp at hx

theorem ask_k1 : ∃ res, Asked 3 3 [top, top] k1 [] 10 res ∧ res.1 = 0 ∧ (res.2.1[2]?).map (fun x => (x.r, x.lo)) = some (true, [⟨4, sMain⟩, ⟨5, e0⟩, top]) := by
  have h : (settleP 3 k1 (k1.map fun x => ruleP x.1) 10 0 (beg sMain [top, top] k1.length)).map (fun r => (r.1, (r.2.1[2]?).map (fun x => (x.r, x.lo)))) = some (0, some (true, [⟨4, sMain⟩, ⟨5, e0⟩, top])) := by decide +kernel
  obtain ⟨res, h1, h2⟩ := Option.map_eq_some_iff.1 h
  simp only [Prod.mk.injEq] at h2
  exact ⟨res, ⟨by decide +kernel, fit_main _ _ _ _ nopool, .inr (.inl ⟨rfl, rfl⟩), by decide, by decide, by decide, h1⟩, h2.1, h2.2⟩
theorem ask_k2 : ∃ res, Asked 3 3 [top, top] k2 [] 10 res ∧ res.1 ≠ 0 := by
  have h : (settleP 3 k2 (k2.map fun x => ruleP x.1) 10 0 (beg sMain [top, top] k2.length)).map (fun r => decide (r.1 ≠ 0)) = some true := by decide +kernel
  obtain ⟨res, h1, h2⟩ := Option.map_eq_some_iff.1 h
  exact ⟨res, ⟨by decide +kernel, fit_main _ _ _ _ nopool, .inr (.inl ⟨rfl, rfl⟩), by decide, by decide, by decide, h1⟩, by simpa using h2⟩

/-- A reached state's local, read. -/
theorem Fl.local {w : World} {S C c n : Nat} {xs : List Stt} {ch : List Bool} (h : Fl w S C c n xs ch) {i : Nat} {x : Stt} (hx : xs[i]? = some x) (hr : x.r = true) {j : Nat} {t : Ty} (ht : x.lo[j]? = some t) :
    ∃ b off cap, w.cell? ⟨S, i * 4 + 1, none⟩ = some (.slice (some ⟨b, off, none⟩) x.lo.length cap) ∧ w.cell? ⟨b, off + j * 2, none⟩ = some (.int .i64 t.k) := by
  obtain ⟨ss, s1, s2, s3, -⟩ := h.ex
  have hi : i < ss.length := by
    have := (List.getElem?_eq_some_iff.1 hx).1
    rw [h.lx] at this
    omega
  obtain ⟨sx, hsx⟩ : ∃ sx, ss[i]? = some sx := ⟨_, List.getElem?_eq_getElem hi⟩
  have SA := s3 i sx x hsx hx
  obtain ⟨ad, cap, e, -, -, hit⟩ := s1.sl okSa
  simp only [Value.slice.injEq] at e
  obtain ⟨rfl, -, -⟩ := e
  obtain ⟨b', off', e, hcs⟩ := hit i sx hsx
  simp only [Option.some.injEq, Addr.mk.injEq, and_true] at e
  obtain ⟨rfl, rfl⟩ := e
  have d1 := hcs 1 _ rfl
  simp only [elSa, Nat.zero_add] at d1
  obtain ⟨b, off, cap, e, q0, -⟩ := ty_at ((SA.lo hr).1.sl okTy) ht
  rw [e] at d1
  exact ⟨b, off, cap, d1, q0⟩

theorem lit_ins (w : World) (l : List (Int × Int)) (cs : Array Value) (hc : cs = (cg elIn l).toArray) (h : l.length ≤ 1000) : SlG elIn (w.alloc (.cells cs 26)) (.slice (some ⟨w.heap.size, 0, none⟩) l.length l.length) l :=
  (own_lit okIn w l cs hc (Nat.le_trans h (by decide))).sl okIn

set_option maxRecDepth 100000 in
set_option maxHeartbeats 4000000 in
theorem known_any (w : World) (T : Tb w) (R : Tr w) : Calls Tryz.prog 10 #[] w fun e w' => e = .returned (.bool true) ∧ Fr no w w' := by
  obtain ⟨res1, A1, r1, m1⟩ := ask_k1
  obtain ⟨res2, A2, r2⟩ := ask_k2
  have HK : Hid (∀ w', Fr no w w' → Tb w' ∧ Tr w') := fun w' hf => ⟨T.kept hf, Tr.kept R hf⟩
  have O1 := vOf_any (w.alloc (.cells #[.int .i64 3, .int .i64 0, .int .i64 5, .int .i64 1, .int .i64 33, .int .i64 0] 26)) _ none _ _ 0 0 k1 [] (lit_ins w k1 _ rfl (by decide)) (SlG.nil _ _)
  have F0 : Fr no w (w.alloc (.cells #[.int .i64 3, .int .i64 0, .int .i64 5, .int .i64 1, .int .i64 33, .int .i64 0] 26)) := (Fr.refl no w).alloc _ _
  generalize hW1 : w.alloc (.cells #[.int .i64 3, .int .i64 0, .int .i64 5, .int .i64 1, .int .i64 33, .int .i64 0] 26) = W1 at *
  have HA1 : Hid _ := A1
  have HA2 : Hid _ := A2
  have HM1 : Hid _ := m1
  have HF0 : Hid _ := F0
  clear T R A1 A2 m1 F0
  obtain ⟨z1, ps1⟩ := res1
  obtain ⟨z2, ps2⟩ := res2
  simp only at r1 r2
  subst r1
  have k1l : k1.length = 3 := rfl
  rw [k1l] at O1
  go_enter Tryz.func10, Tryz.ntmps10
  go_wp2_with fail
  refine O1.mono ?_
  rintro e w1 ⟨v, rfl, cs1, f1⟩
  have G1 : Fr no w w1 := HF0.out.new f1 (fun _ _ f => f)
  have L := link_any w1 (HK.out w1 G1).1 (HK.out w1 G1).2 v _ cs1 (fun c hc => by simp only [List.mem_singleton] at hc; subst hc; exact HA1.out.fit) (by simp)
  rw [HA1.out.link] at L
  clear O1 cs1 f1
  go_wp2_with fail
  refine L.mono ?_
  rintro e w2 ⟨q, rfl, la, f2⟩
  obtain ⟨p, rfl, P, hsm⟩ := la.2 HA1.out.link
  have G2 : Fr no w w2 := G1.new f2 (fun _ _ f => f)
  have HP1 : Hid (∀ w', Fr no w2 w' → Prg w' p (allC [mainK 3 3 k1 []]) (newC [mainK 3 3 k1 []]).2.2) := fun w' hf => P.keep hf
  have HS1 : Hid _ := hsm
  clear L la P hsm f2 G1
  have O2 := vOf_any (w2.alloc (.cells #[.int .i64 3, .int .i64 0, .int .i64 8, .int .i64 0, .int .i64 33, .int .i64 0] 26)) _ none _ _ 0 0 k2 [] (lit_ins w2 k2 _ rfl (by decide)) (SlG.nil _ _)
  have F2 : Fr no w2 (w2.alloc (.cells #[.int .i64 3, .int .i64 0, .int .i64 8, .int .i64 0, .int .i64 33, .int .i64 0] 26)) := (Fr.refl no w2).alloc _ _
  generalize hW3 : w2.alloc (.cells #[.int .i64 3, .int .i64 0, .int .i64 8, .int .i64 0, .int .i64 33, .int .i64 0] 26) = W3 at *
  have k2l : k2.length = 3 := rfl
  rw [k2l] at O2
  go_wp2_with fail
  refine O2.mono ?_
  rintro e w3 ⟨v, rfl, cs3, f3⟩
  have g3 : Fr no w2 w3 := F2.new f3 (fun _ _ f => f)
  have G3 : Fr no w w3 := G2.new g3 (fun _ _ f => f)
  have L := link_any w3 (HK.out w3 G3).1 (HK.out w3 G3).2 v _ cs3 (fun c hc => by simp only [List.mem_singleton] at hc; subst hc; exact HA2.out.fit) (by simp)
  rw [HA2.out.link] at L
  clear O2 cs3 f3 F2
  go_wp2_with fail
  refine L.mono ?_
  rintro e w4 ⟨q, rfl, la, f4⟩
  obtain ⟨p2, rfl, P2, hsm2⟩ := la.2 HA2.out.link
  have g4 : Fr no w2 w4 := g3.new f4 (fun _ _ f => f)
  have G4 : Fr no w w4 := G2.new g4 (fun _ _ f => f)
  have M1 := HA1.out.meth w4 p (HP1.out w4 g4) HS1.out (HK.out w4 G4).2
  have HP2 : Hid (∀ w', Fr no w4 w' → Prg w' p2 (allC [mainK 3 3 k2 []]) (newC [mainK 3 3 k2 []]).2.2) := fun w' hf => P2.keep hf
  have HS2 : Hid _ := hsm2
  have HG4 : Hid _ := G4
  clear L la P2 hsm2 f4 g3 G2 G3 g4 HP1 HS1 G4
  go_wp2_with fail
  refine M1.mono ?_
  rintro e w5 ⟨S, C, c, v5, rfl, t5, -, f5⟩
  obtain ⟨rfl, FL⟩ := t5 trivial
  have M2 := HA2.out.meth w5 p2 (HP2.out w5 f5) HS2.out (HK.out w5 (HG4.out.new f5 (fun _ _ f => f))).2
  have HFL : Hid (∀ w', Fr no w5 w' → ∃ b off cap, w'.cell? ⟨S, 9, none⟩ = some (.slice (some ⟨b, off, none⟩) 3 cap) ∧ w'.cell? ⟨b, off + 2, none⟩ = some (.int .i64 5)) := fun w' hf => by
    obtain ⟨x, hx, hx2⟩ := Option.map_eq_some_iff.1 HM1.out
    simp only [Prod.mk.injEq] at hx2
    have := (FL.keep hf).local hx hx2.1 (j := 1) (t := ⟨5, e0⟩) (by rw [hx2.2]; rfl)
    rw [hx2.2] at this
    exact this
  have HF5 : Hid _ := f5
  clear M1 t5 FL f5
  go_wp2_with fail
  refine M2.mono ?_
  rintro e w6 ⟨S6, C6, c6, v6, rfl, -, -, f6⟩
  have AL := HA2.out.all w6 p2 (HP2.out w6 (HF5.out.new f6 (fun _ _ f => f))) HS2.out (HK.out w6 ((HG4.out.new HF5.out (fun _ _ f => f)).new f6 (fun _ _ f => f))).2
  obtain ⟨b, off, cap, d1, d2⟩ := HFL.out w6 f6
  have HF6 : Hid (Fr no w w6) := (HG4.out.new HF5.out (fun _ _ f => f)).new f6 (fun _ _ f => f)
  have r2' : (z2 == 0) = false := by simpa using r2
  have r2n : (z2 != 0) = true := by simpa using r2
  clear M2 f6 HP2 HS2
  go_wp2_with fail
  refine AL.mono ?_
  rintro e w7 ⟨rfl, f7⟩
  go_wp2_with fail
  go_ret
  exact ⟨by simp, HF6.out.new f7 (fun _ _ f => f)⟩
end Go.Proofs.YtpfkigoffllieaaGreatDoor

/- What the program's start lays: from the rows' condition on package-level variables to the two tables that the calls read. And what came in reads as before behind a call that made new memory alone. -/
namespace Go.Proofs.YtpfkigoffllieaaGreatDoor
open Go.ChangeShapes Go.WideShapes Go.ChangeAt Go.RowKit Go.Deep

theorem ownNone : ownKnob Tryz.prog.godebug = none := by kernel_rfl

/-- The variables that the rows list. -/
abbrev laid2 : List (String × DataW Unit) := Rows.verifyHeightsRow.laid

theorem door_met2 (os : Os) (args : Array Value) : laidMetH Tryz.prog laid2 ((World.doorLaid Tryz.prog 19 os).forCall (fun _ _ => 0) ⟨#[], args, []⟩).memory :=
  laidMetH_of_parts3 (fuel := 8) (laidMet_of_run' 8 (by kernel_rfl) (by kernel_rfl)) (by kernel_rfl) (by kernel_rfl)

theorem of_laid2 {W : World} (h : laidMetH Tryz.prog laid2 W) : Tb W ∧ Tr W := by
  rw [MakeChecks.laidMetH_plain _ _ _ (by kernel_rfl)] at h
  have h2 := h.tail
  have op : Lib.TabIs Tryz.prog W "loom/code.operands" .i8 opds := Lib.tabIs_of_head (g := 0) (t := 201) (e := 200) (n := 48) (zs := opds) (by kernel_rfl) (by kernel_rfl) Tryz.underlying201 Tryz.underlying200 (by kernel_rfl) (by kernel_rfl) h
  have tr : Lib.TabIs Tryz.prog W "loom/code.traits" .u8 trts := Lib.tabIs_of_head (g := 1) (t := 202) (e := 5) (n := 48) (zs := trts) (by kernel_rfl) (by kernel_rfl) Tryz.underlying202 Tryz.underlying5 (by kernel_rfl) (by kernel_rfl) h2
  exact ⟨⟨fun n hn => op.cell (g := 0) (by kernel_rfl) n hn⟩, fun n hn => tr.cell (g := 1) (by kernel_rfl) n hn⟩

theorem Fr.keptBut {w w' : World} (h : Fr no w w') (may : MemPlace → Prop) : w.keptBut w' may := by
  refine ⟨h.os, h.output, fun i hi => ?_⟩
  rw [h.block i hi (fun f => f)]
  split <;> simp_all

def elU : H.El Nat := ⟨40, 5, .int .u8 0, 1, fun n => .int .u8 (n : Int)⟩
theorem elU_ok : elU.Ok := ⟨Tryz.underlying40, by kernel_rfl, fun _ => rfl, rfl, by decide⟩
abbrev RdU (w : World) (v : Value) (l : List Nat) : Prop := H.SlG elU w v l
abbrev RdB (w : World) (v : Value) (l : List Bool) : Prop := H.SlG elB w v l
section
variable {H : Type} {enc : TypeId × Value → H} {w : World} {spare : Nat → Bool} {held : Bool}

/-- The row's own condition behind a call that leaves all old memory as it was, the frozen marks of it too. -/
theorem post_old {P : Program} {f : Func} {s : ChangeSpec} {apart fresh handsOn again : Bool} {W W' : World} {args : Array Value} {v : Value} {ds gs : List (DataW H)} {before pa pv : List MemPlace}
    (hW : DataW.Whole enc P f.params.toList s.vars apart W args.toList ds gs before)
    (hres : ∀ (b : Nat) (sp : Nat → Bool) (hd : Bool), DataW.TrodAll enc P W' b sp hd f.resultTypes.toList (v.resultList f.resultTypes.size) (s.fn H (ds ++ gs)).results [])
    (hargs : ∀ sp : Nat → Bool, (∀ p ∈ before, sp p.block = true) → DataW.TrodAll enc P W' 0 sp true f.params.toList args.toList (s.fn H (ds ++ gs)).args pa)
    (hvars : ∀ sp : Nat → Bool, (∀ p ∈ before, sp p.block = true) → DataW.TrodVars enc P W' sp s.vars (s.fn H (ds ++ gs)).vars pv)
    (hps : before = pa ++ pv) (hg : Fr no W W')
    (hok : ∀ (j : Nat) (t : TypeId) (r : Value), f.resultTypes[j]? = some t → (v.resultList f.resultTypes.size)[j]? = some r → Value.okWide P W' .any 0 t r) :
    s.post enc P f apart fresh handsOn again W args v W' := by
  have hlt : ∀ p ∈ before, p.block < W.heap.size := fun p hp => hW.lt p hp
  have hold : ∀ p ∈ before, (fun b => decide (b < W.heap.size)) p.block = true := fun p hp => by simpa using hlt p hp
  refine ⟨ds, gs, before, [], pa, pv, hW, hres _ _ _, hargs _ hold, hvars _ hold, World.keptBut_mono (fun p hp => ⟨hp, ?_⟩) (hg.keptBut (· ∈ before)), fun _ => ?_⟩
  · rw [hps, List.mem_append] at hp
    exact Or.inr hp
  · obtain ⟨_, _, _, _, _, hz, hn⟩ := hW
    refine ⟨hok, _, _, ([] ++ pa) ++ pv, ⟨[] ++ pa, pv, trodAll_append (hargs _ (fun _ _ => rfl)) (hres _ _ _), hvars _ (fun _ _ => rfl), rfl, ?_, ?_⟩, ?_⟩
    · intro b off hp
      have hp' : MemPlace.cell b off ∈ before := by rw [hps]; simpa using hp
      rw [hg.frozen _ (hlt _ hp')]
      exact hz b off hp'
    · intro ha
      have := hn ha
      rw [hps] at this
      simpa using this
    · intro p hp _
      rw [hps]
      simpa using hp

theorem Tryz.cells5 : Tryz.prog.cellsOf 5 = 1 := by kernel_rfl
theorem open_u8s {v : Value} {d : DataW H} {ps : List MemPlace} (hv : ∃ a len cap, v = .slice a len cap) (h : DataW.Trod enc Tryz.prog w 0 spare held 40 v d ps) : ∃ bs : List Nat, (∀ c ∈ bs, c < 256) ∧ RdU w v bs := by
  obtain ⟨a0, len0, cap0, rfl⟩ := hv
  obtain ⟨fuel, h⟩ := h
  rcases open_ints Tryz.underlying40 Tryz.underlying5 Tryz.cells5 h with ⟨e, _⟩ | ⟨a, len, cap, zs, e, _, hl, hm, hz, _, hc, hw⟩
  · have e' : Value.slice a0 len0 cap0 = .slice none 0 0 := by simpa [Value.cells] using e
    rw [e']
    exact ⟨[], fun c hc => by simp at hc, none, 0, rfl, Nat.zero_le _, Nat.zero_le _, fun _ => ⟨rfl, rfl⟩, fun i x hx => by simp at hx⟩
  · have e' : Value.slice a0 len0 cap0 = .slice (some a) len cap := by simpa [Value.cells] using e
    rw [e']
    have hlz : len ≤ zs.length := by rw [hz]; split <;> omega
    have hb : ∀ z ∈ zs, 0 ≤ z ∧ z ≤ 255 := fun z hz => by simpa [Lit.wf, IntKind.min, IntKind.max, IntKind.signed, IntKind.bits] using hw z hz
    have hln : ((zs.take len).map Int.toNat).length = len := by simp; omega
    refine ⟨(zs.take len).map Int.toNat, fun c hc' => ?_, some a, cap, by rw [hln], by rw [hln]; exact hl, hm, fun e => by simp at e, fun i c hi => ?_⟩
    · obtain ⟨z, hz1, rfl⟩ := List.mem_map.1 hc'
      have := hb z (List.mem_of_mem_take hz1)
      omega
    · rw [List.getElem?_map, List.getElem?_take] at hi
      split at hi
      · rename_i hil
        have hil' : i < zs.length := by omega
        have h1 := hc i hil'
        obtain ⟨b, o, spot⟩ := a
        have hspot : spot = none := by
          have h0 := hc 0 (by omega)
          simpa [Addr.add] using World.cell?_spot h0
        subst hspot
        rw [Addr.add_lit] at h1
        rw [List.getElem?_eq_getElem hil'] at hi
        simp at hi
        have h2 := hb zs[i] (List.getElem_mem hil')
        have e3 : zs.getD i 0 = (c : Int) := by rw [List.getD_eq_getElem?_getD, List.getElem?_eq_getElem hil', Option.getD_some]; omega
        refine ⟨b, o, rfl, ?_⟩
        rw [h1, e3]
        rfl
      · simp at hi

theorem Tryz.cells4 : Tryz.prog.cellsOf 4 = 1 := by kernel_rfl
theorem open_bls {v : Value} {d : DataW H} {ps : List MemPlace} (hv : ∃ a len cap, v = .slice a len cap) (h : DataW.Trod enc Tryz.prog w 0 (fun _ => true) held 22 v d ps) : ∃ bs : List Bool, RdB w v bs := by
  obtain ⟨a0, len0, cap0, rfl⟩ := hv
  obtain ⟨fuel, h⟩ := h
  rcases open_bools Tryz.underlying22 Tryz.underlying4 Tryz.cells4 h with ⟨e, _⟩ | ⟨a, len, cap, B, e, _, hl, hm, _, hc⟩
  · have e' : Value.slice a0 len0 cap0 = .slice none 0 0 := by simpa [Value.cells] using e
    rw [e']
    exact ⟨[], none, 0, rfl, Nat.zero_le _, Nat.zero_le _, fun _ => ⟨rfl, rfl⟩, fun i x hx => by simp at hx⟩
  · have e' : Value.slice a0 len0 cap0 = .slice (some a) len cap := by simpa [Value.cells] using e
    rw [e']
    have hln : ((List.range len).map B).length = len := by simp
    refine ⟨(List.range len).map B, some a, cap, by rw [hln], by rw [hln]; exact hl, hm, fun e => by simp at e, fun i c hi => ?_⟩
    have hil : i < len := by
      have := (List.getElem?_eq_some_iff.1 hi).1
      rwa [hln] at this
    rw [List.getElem?_map, List.getElem?_range hil] at hi
    simp only [Option.map_some, Option.some.injEq] at hi
    subst hi
    have h1 := hc i (by omega)
    obtain ⟨b, o, spot⟩ := a
    have hspot : spot = none := by
      have h0 := hc 0 (by omega)
      simpa [Addr.add] using World.cell?_spot h0
    subst hspot
    rw [Addr.add_lit] at h1
    exact ⟨b, o, rfl, h1⟩

theorem Tryz.laidOut : laidOutB Tryz.prog = true := by kernel_rfl

theorem Fr.same {W w' : World} (h : Fr no W w') {p : MemPlace} (hp : p.block < W.heap.size) : W.sameAt w' p := by
  cases p with
  | cell b o => exact World.cell?_of_block (w := W) (h.block b hp (fun f => f))
  | map b => exact h.block b hp (fun f => f)

/-- What came in reads as before, behind a call that made new memory alone. -/
theorem trod_after {t : TypeId} (hr : Tryz.prog.readableRec t = true) (hrow : t < Tryz.prog.types.size) {W W' : World} {v : Value} {d : DataW H} {ps : List MemPlace} (h : DataW.Trod enc Tryz.prog W 0 (fun _ => true) true t v d ps) (hf : Fr no W W')
    (hlt : ∀ x ∈ ps, x.block < W.heap.size) {sp : Nat → Bool} (hsp : ∀ x ∈ ps, sp x.block = true) : DataW.Trod enc Tryz.prog W' 0 sp true t v d ps :=
  WideElems.Trod_stays Tryz.laidOut hr hrow h (fun x hx => hf.same (hlt x hx)) (fun x hx => hsp x hx)
end
end Go.Proofs.YtpfkigoffllieaaGreatDoor
