/- What the program's start lays: from the rows' condition on package-level variables to the two tables that the calls read. And what came in reads as before behind a call that made new memory alone. -/
import Derived.Test.YthncdbobjeeeaaaGreatDoorRows
import Derived.Test.YthncdbobjeeeaaaGreatDoorGg
import Derived.ProofKit
import Derived.LaidMore
import Derived.OpenShut
import Derived.Stop.Joined
import Derived.Stop.LaidErr
import Derived.Lib.LaidTab
import Derived.Deep.Slices
import Derived.Carry
namespace Go.Proofs.YthncdbobjeeeaaaGreatDoor
open Go.ChangeShapes Go.WideShapes Go.ChangeAt Go.RowKit Go.Deep

theorem ownNone : ownKnob Tryz.prog.godebug = none := by kernel_rfl

/-- The variables that the rows list. -/
abbrev laid2 : List (String × DataW Unit) := Rows.classTwiceRow.laid

theorem door_met2 (os : Os) (args : Array Value) : laidMetH Tryz.prog laid2 ((World.doorLaid Tryz.prog 19 os).forCall (fun _ _ => 0) ⟨#[], args, []⟩).memory :=
  laidMetH_of_parts3 (fuel := 8) (laidMet_of_run' 8 (by kernel_rfl) (by kernel_rfl)) (by kernel_rfl) (by kernel_rfl)

theorem of_laid2 {W : World} (h : laidMetH Tryz.prog laid2 W) : Tb W ∧ Tr W := by
  rw [MakeChecks.laidMetH_plain _ _ _ (by kernel_rfl)] at h
  have h2 := h.tail
  have op : Lib.TabIs Tryz.prog W "loom/code.operands" .i8 opds := Lib.tabIs_of_head (g := 1) (t := 225) (e := 224) (n := 48) (zs := opds) (by kernel_rfl) (by kernel_rfl) Tryz.underlying225 Tryz.underlying224 (by kernel_rfl) (by kernel_rfl) h
  have tr : Lib.TabIs Tryz.prog W "loom/code.traits" .u8 trts := Lib.tabIs_of_head (g := 2) (t := 226) (e := 5) (n := 48) (zs := trts) (by kernel_rfl) (by kernel_rfl) Tryz.underlying226 Tryz.underlying5 (by kernel_rfl) (by kernel_rfl) h2
  exact ⟨⟨fun n hn => op.cell (g := 1) (by kernel_rfl) n hn⟩, fun n hn => tr.cell (g := 2) (by kernel_rfl) n hn⟩

theorem Fr.keptBut {w w' : World} (h : Fr no w w') (may : MemPlace → Prop) : w.keptBut w' may := by
  refine ⟨h.os, h.output, fun i hi => ?_⟩
  rw [h.block i hi (fun f => f)]
  split <;> simp_all

section
variable {H : Type} {enc : TypeId × Value → H} {w : World} {spare : Nat → Bool} {held : Bool}

/-- The row's own condition behind a call that leaves all old memory as it was, the frozen marks of it too. -/
theorem post_old {P : Program} {f : Func} {s : ChangeSpec} {apart fresh handsOn again : Bool} {W W' : World} {args : Array Value} {v : Value} {ds gs : List (DataW H)} {before pa pv : List MemPlace}
    (hW : DataW.Whole enc P f.params.toList s.vars apart W args.toList ds gs before)
    (hres : ∀ (b : Nat) (sp : Nat → Bool) (hd : Bool), DataW.TrodAll enc P W' b sp hd f.resultTypes.toList (v.resultList f.resultTypes.size) (s.fn H (ds ++ gs)).results [])
    (hargs : ∀ sp : Nat → Bool, (∀ p ∈ before, sp p.block = true) → DataW.TrodAll enc P W' 0 sp true f.params.toList args.toList (s.fn H (ds ++ gs)).args pa)
    (hvars : ∀ sp : Nat → Bool, (∀ p ∈ before, sp p.block = true) → DataW.TrodVars enc P W' sp s.vars (s.fn H (ds ++ gs)).vars pv)
    (hps : before = pa ++ pv) (hg : Fr no W W')
    (hok : ∀ (j : Nat) (t : TypeId) (r : Value), f.resultTypes[j]? = some t → (v.resultList f.resultTypes.size)[j]? = some r → Value.okWide P W' .any 0 t r) :
    s.post enc P f apart fresh handsOn again W args v W' := by
  have hlt : ∀ p ∈ before, p.block < W.heap.size := fun p hp => hW.lt p hp
  have hold : ∀ p ∈ before, (fun b => decide (b < W.heap.size)) p.block = true := fun p hp => by simpa using hlt p hp
  refine ⟨ds, gs, before, [], pa, pv, hW, hres _ _ _, hargs _ hold, hvars _ hold, World.keptBut_mono (fun p hp => ⟨hp, ?_⟩) (hg.keptBut (· ∈ before)), fun _ => ?_⟩
  · rw [hps, List.mem_append] at hp
    exact Or.inr hp
  · obtain ⟨_, _, _, _, _, hz, hn⟩ := hW
    refine ⟨hok, _, _, ([] ++ pa) ++ pv, ⟨[] ++ pa, pv, trodAll_append (hargs _ (fun _ _ => rfl)) (hres _ _ _), hvars _ (fun _ _ => rfl), rfl, ?_, ?_⟩, ?_⟩
    · intro b off hp
      have hp' : MemPlace.cell b off ∈ before := by rw [hps]; simpa using hp
      rw [hg.frozen _ (hlt _ hp')]
      exact hz b off hp'
    · intro ha
      have := hn ha
      rw [hps] at this
      simpa using this
    · intro p hp _
      rw [hps]
      simpa using hp

theorem Tryz.cells5 : Tryz.prog.cellsOf 5 = 1 := by kernel_rfl
theorem open_bytes {v : Value} {d : DataW H} {ps : List MemPlace} (hv : ∃ a len cap, v = .slice a len cap) (h : DataW.Trod enc Tryz.prog w 0 spare held 22 v d ps) : ∃ bs : List Nat, (∀ c ∈ bs, c < 256) ∧ Sl w v bs := by
  obtain ⟨a0, len0, cap0, rfl⟩ := hv
  obtain ⟨fuel, h⟩ := h
  rcases open_ints Tryz.underlying22 Tryz.underlying5 Tryz.cells5 h with ⟨e, _⟩ | ⟨a, len, cap, zs, e, _, hl, hm, hz, _, hc, hw⟩
  · have e' : Value.slice a0 len0 cap0 = .slice none 0 0 := by simpa [Value.cells] using e
    rw [e']
    exact ⟨[], fun c hc => by simp at hc, .inr ⟨rfl, _, _, rfl, Nat.zero_le _, fun _ => rfl⟩⟩
  · have e' : Value.slice a0 len0 cap0 = .slice (some a) len cap := by simpa [Value.cells] using e
    rw [e']
    cases hz0 : len with
    | zero => exact ⟨[], fun c hc => by simp at hc, .inr ⟨rfl, _, cap, rfl, hm, fun h => by simp at h⟩⟩
    | succ k =>
      rw [← hz0]
      have hlz : len ≤ zs.length := by rw [hz]; split <;> omega
      obtain ⟨b, o, spot⟩ := a
      have hspot : spot = none := by
        have h0 := hc 0 (by omega)
        simpa [Addr.add] using World.cell?_spot h0
      subst hspot
      have hb : ∀ z ∈ zs, 0 ≤ z ∧ z ≤ 255 := fun z hz => by simpa [Lit.wf, IntKind.min, IntKind.max, IntKind.signed, IntKind.bits] using hw z hz
      refine ⟨(zs.take len).map Int.toNat, fun c hc' => ?_, .inl ⟨b, o, cap, by simp; omega, by simp; omega, hm, fun i c hi => ?_⟩⟩
      · obtain ⟨z, hz1, rfl⟩ := List.mem_map.1 hc'
        have := hb z (List.mem_of_mem_take hz1)
        omega
      · rw [List.getElem?_map, List.getElem?_take] at hi
        split at hi
        · rename_i hil
          have hil' : i < zs.length := by omega
          have h1 := hc i hil'
          rw [Addr.add_lit] at h1
          rw [List.getElem?_eq_getElem hil'] at hi
          simp at hi
          rw [h1]
          have h2 := hb zs[i] (List.getElem_mem hil')
          have e3 : zs.getD i 0 = (c : Int) := by rw [List.getD_eq_getElem?_getD, List.getElem?_eq_getElem hil', Option.getD_some]; omega
          rw [e3]
        · simp at hi

theorem Tryz.laidOut : laidOutB Tryz.prog = true := by kernel_rfl

theorem Fr.same {W w' : World} (h : Fr no W w') {p : MemPlace} (hp : p.block < W.heap.size) : W.sameAt w' p := by
  cases p with
  | cell b o => exact World.cell?_of_block (w := W) (h.block b hp (fun f => f))
  | map b => exact h.block b hp (fun f => f)

/-- What came in reads as before, behind a call that made new memory alone. -/
theorem trod_after {t : TypeId} (hr : Tryz.prog.readableRec t = true) (hrow : t < Tryz.prog.types.size) {W W' : World} {v : Value} {d : DataW H} {ps : List MemPlace} (h : DataW.Trod enc Tryz.prog W 0 (fun _ => true) true t v d ps) (hf : Fr no W W')
    (hlt : ∀ x ∈ ps, x.block < W.heap.size) {sp : Nat → Bool} (hsp : ∀ x ∈ ps, sp x.block = true) : DataW.Trod enc Tryz.prog W' 0 sp true t v d ps :=
  WideElems.Trod_stays Tryz.laidOut hr hrow h (fun x hx => hf.same (hlt x hx)) (fun x hx => hsp x hx)
end
end Go.Proofs.YthncdbobjeeeaaaGreatDoor

