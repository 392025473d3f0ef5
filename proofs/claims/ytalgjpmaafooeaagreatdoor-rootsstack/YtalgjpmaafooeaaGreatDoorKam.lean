/- The number of a class, the name of a number. -/
import Derived.Test.YtalgjpmaafooeaaGreatDoorKak
import Derived.Test.YtalgjpmaafooeaaGreatDoorKaj
import Derived.Test.YtalgjpmaafooeaaGreatDoorKal
import Derived.Test.YtalgjpmaafooeaaGreatDoorRows
import Derived.ProofKit
import Derived.LaidMore
import Derived.OpenShut
import Derived.Stop.Joined
import Derived.Stop.LaidErr
import Derived.Lib.LaidTab
import Derived.Deep.Slices
import Derived.Deep.Grids
import Derived.Carry
namespace Go.Proofs.YtalgjpmaafooeaaGreatDoor
open Go.ChangeShapes Go.WideShapes Go.ChangeAt Go.RowKit
open H (ky Owns MapOf ix up nameAt anc Fine obj fault)
set_option maxRecDepth 100000 in
set_option maxHeartbeats 2000000 in
theorem name_any (w : World) (p : Nat) (Cs : List Cl) (A : List Nat) (h : Prg w p Cs A) (i : Nat) (hi : i < Cs.length) :
 Calls Tryz.prog 25 #[.pointer (some ⟨p, 0, none⟩), .int .i64 (i : Int)] w fun e w' => e = .returned (.string (clsAt Cs i).name) ∧ Fr no w w' := by
 obtain ⟨w0, hp, m, v, X, ch, P, -⟩ := h.ex
 obtain ⟨x, y, hx, hy, L⟩ := P.get (i := i) (by rw [layAll_len]; exact hi)
 have hk := L.k
 have hyl : y = lay Cs A i := by
  rw [layAll_get hi] at hy
  simpa using hy.symm
 rw [hyl, lay_cls] at hk
 have hnm : x.k.name = (clsAt Cs i).name := hk.at'.name
 obtain ⟨xk, ⟨sa, sn, sc⟩, wd, xf, xm⟩ := x
 obtain ⟨qv, cv, rfl⟩ := P.form
 have P0 := P
 rw [layAll_len] at P0
 obtain ⟨-, b1, b2⟩ := cells3 P0.pb
 obtain ⟨g, rfl⟩ := P0.row.some_of (fun e => by rw [e] at hx; simp at hx)
 have d : ∀ j u, (lkC ⟨xk, ⟨sa, sn, sc⟩, wd, xf, xm⟩)[j]? = some u → _ := fun j u hj => P0.row.cell okLk hx hj
 have d0 := d 0 _ rfl
 simp only [elLk, Nat.add_zero] at d0
 rw [← hnm]
 have hii : (i : Int) < (Cs.length : Int) := by omega
 have hi0 : ((i : Int) < 0) = False := by simp
 have hi1 : ((Cs.length : Int) ≤ (i : Int)) = False := by simp; omega
 clear P P0 h L hk hy hx hyl d hnm
 generalize hcl2 : Cs.length = n at *
 go_enter Tryz.func25, Tryz.ntmps25
 go_wp2_with fail
 go_ret
 exact ⟨rfl, Fr.refl no w⟩
end Go.Proofs.YtalgjpmaafooeaaGreatDoor
/- What fits and what two types are, of numbers, null and unset; bools. -/
namespace Go.Proofs.YtalgjpmaafooeaaGreatDoor
open Go.ChangeShapes Go.WideShapes Go.ChangeAt Go.RowKit
open H (ix NewV)
def elB : H.El Bool := ⟨56, 4, .bool false, 1, .bool⟩
theorem elB_ok : elB.Ok := ⟨Tryz.underlying56, by kernel_rfl, fun _ => rfl, rfl, by decide⟩
theorem bq (a b : Int) : (a == b) = decide (a = b) := by by_cases h : a = b <;> simp [h]
def top : Ty := ⟨6, e0⟩
def fitT (a b : Ty) : Bool := if b.k = 6 then true else decide (a.k = b.k)
def mergeT (a b : Ty) : Ty := if a = b then a else top
set_option maxRecDepth 100000 in
set_option maxHeartbeats 2000000 in
theorem fitsR_any (w : World) (q : Value) (a b : Ty) (hb : b.k = 1 ∨ b.k = 2 ∨ b.k = 6) :
 Calls Tryz.prog 151 #[q, tyV a, tyV b] w fun e w' => e = .returned (.bool (fitT a b)) ∧ Fr no w w' := by
 obtain ⟨ka, ca⟩ := a
 obtain ⟨kb, cb⟩ := b
 simp only at hb
 have F : Fr no w ((w.alloc (.cells #[.int .i64 ka, .string ca] 44)).alloc (.cells #[.int .i64 kb, .string cb] 44)) := ((Fr.refl no w).alloc _ _).alloc _ _
 unfold tyV
 simp only
 rcases hb with rfl | rfl | rfl
 · go_enter Tryz.func151, Tryz.ntmps151
   go_wp2_with fail
   go_ret
   refine ⟨?_, F⟩
   simp [fitT, bq]
 · go_enter Tryz.func151, Tryz.ntmps151
   go_wp2_with fail
   go_ret
   refine ⟨?_, F⟩
   simp [fitT, bq]
 · go_enter Tryz.func151, Tryz.ntmps151
   go_wp2_with fail
   go_ret
   exact ⟨rfl, F⟩
theorem results_129 (w : World) (r : Nat) (x0 x1 : Value) (h : w.heap[r]? = some (.cells #[x0, x1] 44 (0, 0))) (tmps : Array Value) (h2 : tmps.getD 6 undef = .pointer (some ⟨r, 0, none⟩)) :
 (results Tryz.f150 tmps).run Tryz.prog w = .ok (.agg #[x0, x1]) w := by
 have hl : (loadVar 44 ⟨r, 0, none⟩).run Tryz.prog w = .ok (.agg #[x0, x1]) w := run_loadVar_row (P := Tryz.prog) w r 44 44 #[x0, x1] (0, 0) _ h Tryz.underlying44 rfl (by kernel_rfl)
 have h2' : tmps[6]?.getD undef = .pointer (some ⟨r, 0, none⟩) := by simpa using h2
 simp [results, asAddr, h2', hl]
set_option maxRecDepth 100000 in
set_option maxHeartbeats 2000000 in
theorem isTop_any (w : World) (a : Ty) : Calls Tryz.prog 143 #[tyV a] w fun e w' => e = .returned (.bool (decide (a.k = 6))) ∧ Fr no w w' := by
 obtain ⟨ka, ca⟩ := a
 have F : Fr no w (w.alloc (.cells #[.int .i64 ka, .string ca] 44)) := (Fr.refl no w).alloc _ _
 unfold tyV
 simp only
 go_enter Tryz.func143, Tryz.ntmps143
 go_wp2_with fail
 go_ret
 refine ⟨?_, F⟩
 simp [bq]
set_option maxRecDepth 100000 in
theorem jumps_any (w : World) (h : Tr w) (op : Int) : Calls Tryz.prog 98 #[.int .i64 op] w fun e w' => e = .returned (.bool (has op 2)) ∧ w' = w := by
 go_enter Tryz.func98, Tryz.ntmps98
 go_wp2_with fail
 refine (does_any w h op 2).mono ?_
 rintro e w1 ⟨rfl, rfl⟩
 go_wp2_with fail
 go_ret
 exact ⟨rfl, rfl⟩
set_option maxRecDepth 100000 in
set_option maxHeartbeats 2000000 in
theorem hierOf_any (w : World) (p : Nat) (q : Value) (h : w.cell? ⟨p, 0, none⟩ = some q) : Calls Tryz.prog 114 #[.pointer (some ⟨p, 0, none⟩)] w fun e w' => e = .returned q ∧ w' = w := by
 go_enter Tryz.func114, Tryz.ntmps114
 go_wp2_with fail
 go_ret
 exact ⟨rfl, rfl⟩
set_option maxRecDepth 100000 in
set_option maxHeartbeats 2000000 in
theorem ffits_any (w : World) (f : Nat) (q : Value) (hf : w.cell? ⟨f, 0, none⟩ = some q) (a b : Ty) (hb : b.k = 1 ∨ b.k = 2 ∨ b.k = 6) :
 Calls Tryz.prog 148 #[.pointer (some ⟨f, 0, none⟩), tyV a, tyV b] w fun e w' => e = .returned (.bool (fitT a b)) ∧ Fr no w w' := by
 obtain ⟨ka, ca⟩ := a
 obtain ⟨kb, cb⟩ := b
 have A := fun (w2 : World) => fitsR_any w2 q ⟨ka, ca⟩ ⟨kb, cb⟩ hb
 unfold tyV at A ⊢
 simp only at hb A ⊢
 have h7 : (kb == 7) = false := by simp; omega
 generalize hW : (w.alloc (.cells #[.int .i64 ka, .string ca] 44)).alloc (.cells #[.int .i64 kb, .string cb] 44) = W
 have G1 : Fr no w (w.alloc (.cells #[.int .i64 ka, .string ca] 44)) := (Fr.refl no w).alloc _ _
 have G2 : Fr no (w.alloc (.cells #[.int .i64 ka, .string ca] 44)) W := by rw [← hW]; exact (Fr.refl no _).alloc _ _
 have F : Fr no w W := G1.new G2 (fun _ _ f => f)
 have E1 : W.heap[w.heap.size]? = some (.cells #[.int .i64 ka, .string ca] 44 (0, 0)) := G2.heap (heap_alloc_new w _) (fun f => f)
 have E2 : W.heap[w.heap.size + 1]? = some (.cells #[.int .i64 kb, .string cb] 44 (0, 0)) := by rw [← hW, ← size_alloc w (.cells #[.int .i64 ka, .string ca] 44)]; exact heap_alloc_new _ _
 have z2 := cell_at (o := 0) E2
 simp only [List.getElem?_toArray, List.getElem?_cons_zero] at z2
 have KS : ∀ w2, Fr no W w2 → Fr no W w2 ∧ w2.cell? ⟨f, 0, none⟩ = some q ∧ w2.cell? ⟨w.heap.size, 0, none⟩ = some (.int .i64 ka) ∧ w2.cell? ⟨w.heap.size, 1, none⟩ = some (.string ca) ∧ w2.cell? ⟨w.heap.size + 1, 0, none⟩ = some (.int .i64 kb) ∧ w2.cell? ⟨w.heap.size + 1, 1, none⟩ = some (.string cb) := fun w2 h2 => by
  refine ⟨h2, h2.cell (F.cell hf (fun f => f)) (fun f => f), ?_, ?_, ?_, ?_⟩
  · exact h2.cell (cell_at E1) (fun f => f)
  · exact h2.cell (cell_at E1) (fun f => f)
  · exact h2.cell (cell_at E2) (fun f => f)
  · exact h2.cell (cell_at E2) (fun f => f)
 have HF : Hid _ := F
 clear F E1 E2 G1 G2
 go_enter Tryz.func148, Tryz.ntmps148
 go_wp2_with fail
 go_region_held3 (fun w2 => Fr no W w2 ∧ w2.cell? ⟨f, 0, none⟩ = some q ∧ w2.cell? ⟨w.heap.size, 0, none⟩ = some (.int .i64 ka) ∧ w2.cell? ⟨w.heap.size, 1, none⟩ = some (.string ca) ∧ w2.cell? ⟨w.heap.size + 1, 0, none⟩ = some (.int .i64 kb) ∧ w2.cell? ⟨w.heap.size + 1, 1, none⟩ = some (.string cb)) (first | exact KS _ (Fr.refl no _).drew | exact KS _ f3') (first | (go_at_call 151; refine (A _).mono ?_; rintro e w3 ⟨rfl, f3⟩; have f3' := (Fr.refl no W).drew.new f3 (fun _ _ f => f)))
 go_wp2_with fail
 go_ret
 exact ⟨rfl, HF.out.new f3' (fun _ _ f => f)⟩
set_option maxRecDepth 100000 in
set_option maxHeartbeats 2000000 in
theorem indexB_any (w : World) (v : Value) (l : List Bool) (hv : H.SlG elB w v l) (b : Bool) :
 Calls Tryz.prog 133 #[v, .bool b] w fun e w' => ∃ i : Int, e = .returned (.int .i64 i) ∧ (0 ≤ i ↔ b ∈ l) ∧ w' = w := by
 obtain ⟨ad, cap, rfl, h1, h2, -, h3⟩ := hv
 have HK : Hid _ := h3
 clear h3
 generalize hn : l.length = n at *
 have hm : n ≤ 9223372036854775807 := by unfold maxLen at h2; omega
 go_enter Tryz.func133, Tryz.ntmps133
 go_wp2_with fail
 go_loopw [8] (fun i wr => ∃ k : Nat, i = .int .i64 (k : Int) ∧ k ≤ n ∧ wr = w ∧ ∀ j, j < k → l[j]? ≠ some b) (fun i _ => n - (intOf i).toNat)
 case atStart => exact ⟨0, rfl, Nat.zero_le _, rfl, fun j hj => by omega⟩
 case round =>
  obtain ⟨k, rfl, hk, rfl, hno⟩ := hrel
  by_cases hlt : k < n
  · have hki : (k : Int) < (n : Int) := by omega
    obtain ⟨x, hx⟩ : ∃ x, l[k]? = some x := ⟨_, List.getElem?_eq_getElem (by omega)⟩
    obtain ⟨bb, off, rfl, hc⟩ := HK.out k x hx
    simp only [elB] at hc
    by_cases hxb : x = b
    · subst hxb
      have HX : Hid (x ∈ l) := List.mem_of_getElem? hx
      go_wp2_with fail
      go_ret
      exact ⟨k, rfl, ⟨fun _ => HX.out, fun _ => by omega⟩, rfl⟩
    · have hxb' : (b == x) = false := by simpa using fun e => hxb e.symm
      have HNO : Hid (∀ j, j < k + 1 → l[j]? ≠ some b) := fun j hj => by
       by_cases e : j = k
       · subst e
         rw [hx]
         simpa using hxb
       · exact hno j (by omega)
      clear hno hx
      go_wp2_with fail
      go_roundw
      case rel => exact ⟨k + 1, by go_num, by omega, by simp, HNO.out⟩
      case measure => simp [intOf]; omega
  · have hkn : k = n := by omega
    have HX : Hid (¬ b ∈ l) := by
     intro hm
     obtain ⟨j, hj⟩ := List.mem_iff_getElem?.1 hm
     have := (List.getElem?_eq_some_iff.1 hj).1
     exact hno j (by omega) hj
    have hki : ¬ (k : Int) < (n : Int) := by omega
    clear hno
    go_wp2_with fail
    go_ret
    exact ⟨-1, rfl, ⟨fun e => by omega, fun e => absurd e HX.out⟩, rfl⟩
set_option maxRecDepth 100000 in
theorem containsB_any (w : World) (v : Value) (l : List Bool) (hv : H.SlG elB w v l) (b : Bool) :
 Calls Tryz.prog 117 #[v, .bool b] w fun e w' => e = .returned (.bool (l.contains b)) ∧ w' = w := by
 have A := indexB_any w v l hv b
 obtain ⟨ad, cap, rfl, -⟩ := hv
 generalize hn : l.length = n at *
 go_enter Tryz.func117, Tryz.ntmps117
 go_wp2_with fail
 refine A.mono ?_
 rintro e w1 ⟨i, rfl, hi, rfl⟩
 go_wp2_with fail
 go_ret
 refine ⟨?_, rfl⟩
 show Ending.returned (Value.bool (decide (b ∈ l))) = _
 rw [show decide (b ∈ l) = l.contains b by rw [Bool.eq_iff_iff, List.contains_iff_mem]; simp]
set_option maxRecDepth 100000 in
set_option maxHeartbeats 2000000 in
theorem mergeR_any (w : World) (q : Value) (a b : Ty) (h : a = b ∨ (a.k = 1 ∨ a.k = 2 ∨ a.k = 6) ∧ (b.k = 1 ∨ b.k = 2 ∨ b.k = 6) ∧ a.c = e0 ∧ b.c = e0) :
 Calls Tryz.prog 150 #[q, tyV a, tyV b] w fun e w' => e = .returned (tyV (mergeT a b)) ∧ Fr no w w' := by
 obtain ⟨ka, ca⟩ := a
 obtain ⟨kb, cb⟩ := b
 unfold mergeT
 by_cases e : (⟨ka, ca⟩ : Ty) = ⟨kb, cb⟩
 · rw [if_pos e]
   simp only [Ty.mk.injEq] at e
   obtain ⟨rfl, rfl⟩ := e
   unfold tyV
   simp only
   have F : ∀ x y z, Fr no w (((w.alloc (.cells x 44)).alloc (.cells y 44)).alloc (.cells z 44)) := fun x y z => (((Fr.refl no w).alloc _ _).alloc _ _).alloc _ _
   have E : ∀ x y z : Array Value, (((w.alloc (.cells x 44)).alloc (.cells y 44)).alloc (.cells z 44)).heap[w.heap.size + 1 + 1]? = some (.cells z 44 (0, 0)) := fun x y z => by
    have := heap_alloc_new ((w.alloc (.cells x 44)).alloc (.cells y 44)) (.cells z 44)
    rw [size_alloc, size_alloc] at this
    exact this
   go_enter Tryz.func150, Tryz.ntmps150
   go_wp2_with fail
   exact bodyPost_ret (results_129 _ (w.heap.size + 1 + 1) _ _ (E _ _ _) _ rfl) rfl ⟨rfl, F _ _ _⟩
 · rw [if_neg e]
   rcases h with h | ⟨ha, hb, hca, hcb⟩
   · exact absurd h e
   · simp only at ha hb hca hcb
     subst hca hcb
     have hne : ¬ ka = kb := fun e' => e (by rw [e'])
     have hne' : (ka == kb) = false := by simpa using hne
     clear e
     unfold tyV top e0
     simp only
     have a5 : (ka == 5) = false := by simp; omega
     have b5 : (kb == 5) = false := by simp; omega
     have a4 : (ka == 4) = false := by simp; omega
     have F : ∀ x y z, Fr no w (((w.alloc (.cells x 44)).alloc (.cells y 44)).alloc (.cells z 44)) := fun x y z => (((Fr.refl no w).alloc _ _).alloc _ _).alloc _ _
     have E : ∀ x y z : Array Value, (((w.alloc (.cells x 44)).alloc (.cells y 44)).alloc (.cells z 44)).heap[w.heap.size + 1 + 1]? = some (.cells z 44 (0, 0)) := fun x y z => by
      have := heap_alloc_new ((w.alloc (.cells x 44)).alloc (.cells y 44)) (.cells z 44)
      rw [size_alloc, size_alloc] at this
      exact this
     go_enter Tryz.func150, Tryz.ntmps150
     go_wp2_with fail
     exact bodyPost_ret (results_129 _ (w.heap.size + 1 + 1) _ _ (E _ _ _) _ rfl) rfl ⟨rfl, F _ _ _⟩
end Go.Proofs.YtalgjpmaafooeaaGreatDoor
/- What the program's start lays: from the rows' condition on package-level variables to the two tables that the calls read. And what came in reads as before behind a call that made new memory alone. -/
namespace Go.Proofs.YtalgjpmaafooeaaGreatDoor
open Go.ChangeShapes Go.WideShapes Go.ChangeAt Go.RowKit Go.Deep
theorem ownNone : ownKnob Tryz.prog.godebug = none := by kernel_rfl
abbrev laid2 : List (String × DataW Unit) := Rows.locksStackRow.laid
theorem door_met2 (os : Os) (args : Array Value) : laidMetH Tryz.prog laid2 ((World.doorLaid Tryz.prog 19 os).forCall (fun _ _ => 0) ⟨#[], args, []⟩).memory :=
 laidMetH_of_parts3 (fuel := 8) (laidMet_of_run' 8 (by kernel_rfl) (by kernel_rfl)) (by kernel_rfl) (by kernel_rfl)
theorem of_laid2 {W : World} (h : laidMetH Tryz.prog laid2 W) : Tb W ∧ Tr W := by
 rw [MakeChecks.laidMetH_plain _ _ _ (by kernel_rfl)] at h
 have h2 := h.tail
 have op : Lib.TabIs Tryz.prog W "loom/code.operands" .i8 opds := Lib.tabIs_of_head (g := 0) (t := 205) (e := 204) (n := 48) (zs := opds) (by kernel_rfl) (by kernel_rfl) Tryz.underlying205 Tryz.underlying204 (by kernel_rfl) (by kernel_rfl) h
 have tr : Lib.TabIs Tryz.prog W "loom/code.traits" .u8 trts := Lib.tabIs_of_head (g := 1) (t := 206) (e := 5) (n := 48) (zs := trts) (by kernel_rfl) (by kernel_rfl) Tryz.underlying206 Tryz.underlying5 (by kernel_rfl) (by kernel_rfl) h2
 exact ⟨⟨fun n hn => op.cell (g := 0) (by kernel_rfl) n hn⟩, fun n hn => tr.cell (g := 1) (by kernel_rfl) n hn⟩
theorem Fr.keptBut {w w' : World} (h : Fr no w w') (may : MemPlace → Prop) : w.keptBut w' may := by
 refine ⟨h.os, h.output, fun i hi => ?_⟩
 rw [h.block i hi (fun f => f)]
 split <;> simp_all
def elU : H.El Nat := ⟨22, 5, .int .u8 0, 1, fun n => .int .u8 (n : Int)⟩
abbrev RdU (w : World) (v : Value) (l : List Nat) : Prop := H.SlG elU w v l
section
variable {H : Type} {enc : TypeId × Value → H} {w : World} {spare : Nat → Bool} {held : Bool}
theorem post_old {P : Program} {f : Func} {s : ChangeSpec} {apart fresh handsOn again : Bool} {W W' : World} {args : Array Value} {v : Value} {ds gs : List (DataW H)} {before pa pv : List MemPlace}
 (hW : DataW.Whole enc P f.params.toList s.vars apart W args.toList ds gs before)
 (hres : ∀ (b : Nat) (sp : Nat → Bool) (hd : Bool), DataW.TrodAll enc P W' b sp hd f.resultTypes.toList (v.resultList f.resultTypes.size) (s.fn H (ds ++ gs)).results [])
 (hargs : ∀ sp : Nat → Bool, (∀ p ∈ before, sp p.block = true) → DataW.TrodAll enc P W' 0 sp true f.params.toList args.toList (s.fn H (ds ++ gs)).args pa)
 (hvars : ∀ sp : Nat → Bool, (∀ p ∈ before, sp p.block = true) → DataW.TrodVars enc P W' sp s.vars (s.fn H (ds ++ gs)).vars pv)
 (hps : before = pa ++ pv) (hg : Fr no W W')
 (hok : ∀ (j : Nat) (t : TypeId) (r : Value), f.resultTypes[j]? = some t → (v.resultList f.resultTypes.size)[j]? = some r → Value.okWide P W' .any 0 t r) :
 s.post enc P f apart fresh handsOn again W args v W' := by
 have hlt : ∀ p ∈ before, p.block < W.heap.size := fun p hp => hW.lt p hp
 have hold : ∀ p ∈ before, (fun b => decide (b < W.heap.size)) p.block = true := fun p hp => by simpa using hlt p hp
 refine ⟨ds, gs, before, [], pa, pv, hW, hres _ _ _, hargs _ hold, hvars _ hold, World.keptBut_mono (fun p hp => ⟨hp, ?_⟩) (hg.keptBut (· ∈ before)), fun _ => ?_⟩
 · rw [hps, List.mem_append] at hp
   exact Or.inr hp
 · obtain ⟨_, _, _, _, _, hz, hn⟩ := hW
   refine ⟨hok, _, _, ([] ++ pa) ++ pv, ⟨[] ++ pa, pv, trodAll_append (hargs _ (fun _ _ => rfl)) (hres _ _ _), hvars _ (fun _ _ => rfl), rfl, ?_, ?_⟩, ?_⟩
   · intro b off hp
     have hp' : MemPlace.cell b off ∈ before := by rw [hps]; simpa using hp
     rw [hg.frozen _ (hlt _ hp')]
     exact hz b off hp'
   · intro ha
     have := hn ha
     rw [hps] at this
     simpa using this
   · intro p hp _
     rw [hps]
     simpa using hp
theorem Tryz.cells5 : Tryz.prog.cellsOf 5 = 1 := by kernel_rfl
theorem open_u8s {v : Value} {d : DataW H} {ps : List MemPlace} (hv : ∃ a len cap, v = .slice a len cap) (h : DataW.Trod enc Tryz.prog w 0 spare held 22 v d ps) : ∃ bs : List Nat, (∀ c ∈ bs, c < 256) ∧ RdU w v bs := by
 obtain ⟨a0, len0, cap0, rfl⟩ := hv
 obtain ⟨fuel, h⟩ := h
 rcases open_ints Tryz.underlying22 Tryz.underlying5 Tryz.cells5 h with ⟨e, _⟩ | ⟨a, len, cap, zs, e, _, hl, hm, hz, _, hc, hw⟩
 · have e' : Value.slice a0 len0 cap0 = .slice none 0 0 := by simpa [Value.cells] using e
   rw [e']
   exact ⟨[], fun c hc => by simp at hc, none, 0, rfl, Nat.zero_le _, Nat.zero_le _, fun _ => ⟨rfl, rfl⟩, fun i x hx => by simp at hx⟩
 · have e' : Value.slice a0 len0 cap0 = .slice (some a) len cap := by simpa [Value.cells] using e
   rw [e']
   have hlz : len ≤ zs.length := by rw [hz]; split <;> omega
   have hb : ∀ z ∈ zs, 0 ≤ z ∧ z ≤ 255 := fun z hz => by simpa [Lit.wf, IntKind.min, IntKind.max, IntKind.signed, IntKind.bits] using hw z hz
   have hln : ((zs.take len).map Int.toNat).length = len := by simp; omega
   refine ⟨(zs.take len).map Int.toNat, fun c hc' => ?_, some a, cap, by rw [hln], by rw [hln]; exact hl, hm, fun e => by simp at e, fun i c hi => ?_⟩
   · obtain ⟨z, hz1, rfl⟩ := List.mem_map.1 hc'
     have := hb z (List.mem_of_mem_take hz1)
     omega
   · rw [List.getElem?_map, List.getElem?_take] at hi
     split at hi
     · rename_i hil
       have hil' : i < zs.length := by omega
       have h1 := hc i hil'
       obtain ⟨b, o, spot⟩ := a
       have hspot : spot = none := by
        have h0 := hc 0 (by omega)
        simpa [Addr.add] using World.cell?_spot h0
       subst hspot
       rw [Addr.add_lit] at h1
       rw [List.getElem?_eq_getElem hil'] at hi
       simp at hi
       have h2 := hb zs[i] (List.getElem_mem hil')
       have e3 : zs.getD i 0 = (c : Int) := by rw [List.getD_eq_getElem?_getD, List.getElem?_eq_getElem hil', Option.getD_some]; omega
       refine ⟨b, o, rfl, ?_⟩
       rw [h1, e3]
       rfl
     · simp at hi
theorem Tryz.laidOut : laidOutB Tryz.prog = true := by kernel_rfl
theorem Fr.same {W w' : World} (h : Fr no W w') {p : MemPlace} (hp : p.block < W.heap.size) : W.sameAt w' p := by
 cases p with
 | cell b o => exact World.cell?_of_block (w := W) (h.block b hp (fun f => f))
 | map b => exact h.block b hp (fun f => f)
theorem trod_after {t : TypeId} (hr : Tryz.prog.readableRec t = true) (hrow : t < Tryz.prog.types.size) {W W' : World} {v : Value} {d : DataW H} {ps : List MemPlace} (h : DataW.Trod enc Tryz.prog W 0 (fun _ => true) true t v d ps) (hf : Fr no W W')
 (hlt : ∀ x ∈ ps, x.block < W.heap.size) {sp : Nat → Bool} (hsp : ∀ x ∈ ps, sp x.block = true) : DataW.Trod enc Tryz.prog W' 0 sp true t v d ps :=
 WideElems.Trod_stays Tryz.laidOut hr hrow h (fun x hx => hf.same (hlt x hx)) (fun x hx => hsp x hx)
end
end Go.Proofs.YtalgjpmaafooeaaGreatDoor
/- States and rules in memory; the copy of a state. -/
namespace Go.Proofs.YtalgjpmaafooeaaGreatDoor
open Go.ChangeShapes Go.WideShapes Go.ChangeAt Go.RowKit
open H (ix NewV)
structure Ru where
 nv : Bool
 tk : Sv
 pt : Sv
structure Sa where
 r : Bool
 lo : Sv
 st : Sv
 lk : Sv
def ruC (x : Ru) : List Value := [.bool x.nv, .slice x.tk.a x.tk.n x.tk.c, .slice x.pt.a x.pt.n x.pt.c]
def saC (x : Sa) : List Value := [.bool x.r, .slice x.lo.a x.lo.n x.lo.c, .slice x.st.a x.st.n x.st.c, .slice x.lk.a x.lk.n x.lk.c]
def ruV (x : Ru) : Value := .agg #[.bool x.nv, .slice x.tk.a x.tk.n x.tk.c, .slice x.pt.a x.pt.n x.pt.c]
def saV (x : Sa) : Value := .agg #[.bool x.r, .slice x.lo.a x.lo.n x.lo.c, .slice x.st.a x.st.n x.st.c, .slice x.lk.a x.lk.n x.lk.c]
def elRu : El Ru := { t := 174, e := 195, n := 3, z := .agg #[.bool false, .slice none 0 0, .slice none 0 0], b := 56, f := ruC }
def elSa : El Sa := { t := 62, e := 67, n := 4, z := .agg #[.bool false, .slice none 0 0, .slice none 0 0, .slice none 0 0], b := 80, f := saC }
theorem okRu : elRu.Ok := by
 refine ⟨Tryz.underlying174, by kernel_rfl, fun _ => rfl, fun x u hu => ?_, fun x u hu => ?_, rfl, fun u hu => ?_, by decide, by decide⟩
 · simp only [elRu, ruC, List.mem_cons, List.not_mem_nil, or_false] at hu
   rcases hu with rfl | rfl | rfl <;> rfl
 · simp only [elRu, ruC, List.mem_cons, List.not_mem_nil, or_false] at hu
   rcases hu with rfl | rfl | rfl <;> intro c <;> simp
 · simp [elRu, Value.cells] at hu
   rcases hu with rfl | rfl <;> intro c <;> simp
theorem okSa : elSa.Ok := by
 refine ⟨Tryz.underlying62, by kernel_rfl, fun _ => rfl, fun x u hu => ?_, fun x u hu => ?_, rfl, fun u hu => ?_, by decide, by decide⟩
 · simp only [elSa, saC, List.mem_cons, List.not_mem_nil, or_false] at hu
   rcases hu with rfl | rfl | rfl | rfl <;> rfl
 · simp only [elSa, saC, List.mem_cons, List.not_mem_nil, or_false] at hu
   rcases hu with rfl | rfl | rfl | rfl <;> intro c <;> simp
 · simp [elSa, Value.cells] at hu
   rcases hu with rfl | rfl <;> intro c <;> simp
theorem results_121 (w : World) (r : Nat) (x0 x1 x2 x3 : Value) (h : w.heap[r]? = some (.cells #[x0, x1, x2, x3] 67 (0, 0))) (tmps : Array Value) (h2 : tmps.getD 2 undef = .pointer (some ⟨r, 0, none⟩)) :
 (results Tryz.f141 tmps).run Tryz.prog w = .ok (.agg #[x0, x1, x2, x3]) w := by
 have hl : (loadVar 67 ⟨r, 0, none⟩).run Tryz.prog w = .ok (.agg #[x0, x1, x2, x3]) w := run_loadVar_row (P := Tryz.prog) w r 67 67 #[x0, x1, x2, x3] (0, 0) _ h Tryz.underlying67 rfl (by kernel_rfl)
 have h2' : tmps[2]?.getD undef = .pointer (some ⟨r, 0, none⟩) := by simpa using h2
 simp [results, asAddr, h2', hl]
theorem box4 {w : World} {q : Nat} {a0 a1 a2 a3 : Value} {t : TypeId} (h : w.heap[q]? = some (.cells #[a0, a1, a2, a3] t (0, 0))) : w.cell? ⟨q, 0, none⟩ = some a0 ∧ w.cell? ⟨q, 1, none⟩ = some a1 ∧ w.cell? ⟨q, 2, none⟩ = some a2 ∧ w.cell? ⟨q, 3, none⟩ = some a3 :=
 ⟨cell_at h, cell_at h, cell_at h, cell_at h⟩
theorem chain4 {w : World} {p : Nat} {t : TypeId} {c0 c1 c2 c3 : Value} (h : w.heap[p]? = some (.cells #[c0, c1, c2, c3] t (0, 0))) (x0 x1 x2 x3 : Value) : ((((w.setCell ⟨p, 0, none⟩ x0).setCell ⟨p, 1, none⟩ x1).setCell ⟨p, 2, none⟩ x2).setCell ⟨p, 3, none⟩ x3).heap[p]? = some (.cells #[x0, x1, x2, x3] t (0, 0)) := by
 have h0 : (w.setCell ⟨p, 0, none⟩ x0).heap[p]? = some (.cells #[x0, c1, c2, c3] t (0, 0)) := set_at h
 have h1 : ((w.setCell ⟨p, 0, none⟩ x0).setCell ⟨p, 1, none⟩ x1).heap[p]? = some (.cells #[x0, x1, c2, c3] t (0, 0)) := set_at h0
 have h2 : (((w.setCell ⟨p, 0, none⟩ x0).setCell ⟨p, 1, none⟩ x1).setCell ⟨p, 2, none⟩ x2).heap[p]? = some (.cells #[x0, x1, x2, c3] t (0, 0)) := set_at h1
 exact set_at h2
theorem frc4 (w : World) (p : Nat) (x0 x1 x2 x3 : Value) : Fr (fun k => k = p) w ((((w.setCell ⟨p, 0, none⟩ x0).setCell ⟨p, 1, none⟩ x1).setCell ⟨p, 2, none⟩ x2).setCell ⟨p, 3, none⟩ x3) :=
 ((((Fr.refl (fun k => k = p) w).setCell (p := ⟨p, 0, none⟩) (fun _ => rfl) x0).setCell (p := ⟨p, 1, none⟩) (fun _ => rfl) x1).setCell (p := ⟨p, 2, none⟩) (fun _ => rfl) x2).setCell (p := ⟨p, 3, none⟩) (fun _ => rfl) x3
theorem wp_eq {P : Program} {c : Code} {Q : Exit → Act → World → Prop} {a a' : Act} {w : World} (h : a = a') (hc : c.wp P Q a' w) : c.wp P Q a w := by
 rw [h]
 exact hc
structure Copied (w w' : World) (s s' : Sa) (l t : List Ty) : Prop where
 r : s'.r = s.r
 lk : s'.lk = s.lk
 lo : OwnG elTy w' (.slice s'.lo.a s'.lo.n s'.lo.c) l
 st : OwnG elTy w' (.slice s'.st.a s'.st.n s'.st.c) t
 nlo : NewV w (.slice s'.lo.a s'.lo.n s'.lo.c)
 nst : NewV w (.slice s'.st.a s'.st.n s'.st.c)
 ne : ∀ g, (Value.slice s'.lo.a s'.lo.n s'.lo.c).ownBlock = some g → (Value.slice s'.st.a s'.st.n s'.st.c).ownBlock ≠ some g
 fr : Fr no w w'
set_option maxRecDepth 100000 in
set_option maxHeartbeats 2000000 in
theorem copyState_any (w : World) (s : Sa) (l t : List Ty) (hl : SlG elTy w (.slice s.lo.a s.lo.n s.lo.c) l) (ht : SlG elTy w (.slice s.st.a s.st.n s.st.c) t) (bl : l.length ≤ 1000) (bt : t.length ≤ 1000) :
 Calls Tryz.prog 141 #[saV s] w fun e w' => ∃ s', e = .returned (saV s') ∧ Copied w w' s s' l t := by
 obtain ⟨sr, ⟨la, ln, lc⟩, ⟨ta, tn, tc⟩, ⟨ka, kn, kc⟩⟩ := s
 unfold saV
 simp only at hl ht ⊢
 generalize hW : (w.alloc (.cells #[.bool sr, .slice la ln lc, .slice ta tn tc, .slice ka kn kc] 67)).alloc (.cells #[.bool false, .slice none 0 0, .slice none 0 0, .slice none 0 0] 67) = W
 have G1 : Fr no w (w.alloc (.cells #[.bool sr, .slice la ln lc, .slice ta tn tc, .slice ka kn kc] 67)) := (Fr.refl no w).alloc _ _
 have G2 : Fr no (w.alloc (.cells #[.bool sr, .slice la ln lc, .slice ta tn tc, .slice ka kn kc] 67)) W := by rw [← hW]; exact (Fr.refl no _).alloc _ _
 have F : Fr no w W := G1.new G2 (fun _ _ f => f)
 have E1 : W.heap[w.heap.size]? = some (.cells #[.bool sr, .slice la ln lc, .slice ta tn tc, .slice ka kn kc] 67 (0, 0)) := G2.heap (heap_alloc_new w _) (fun f => f)
 have E2 : W.heap[w.heap.size + 1]? = some (.cells #[.bool false, .slice none 0 0, .slice none 0 0, .slice none 0 0] 67 (0, 0)) := by rw [← hW, ← size_alloc w (.cells #[.bool sr, .slice la ln lc, .slice ta tn tc, .slice ka kn kc] 67)]; exact heap_alloc_new _ _
 have C1 := cloneTy_any W.drew _ _ (hl.kept (F.drew)) bl
 have HC2 : Hid (∀ w', Fr no W w' → Calls Tryz.prog 94 #[.slice ta tn tc] w' fun e w2 => ∃ v', e = .returned v' ∧ OwnG elTy w2 v' t ∧ NewV w' v' ∧ Fr no w' w2) := fun w' hf => cloneTy_any w' _ _ (ht.kept (F.new hf (fun _ _ f => f))) bt
 have HK : Hid (∀ w', Fr no W w' → w'.heap[w.heap.size]? = some (.cells #[.bool sr, .slice la ln lc, .slice ta tn tc, .slice ka kn kc] 67 (0, 0)) ∧ w'.heap[w.heap.size + 1]? = some (.cells #[.bool false, .slice none 0 0, .slice none 0 0, .slice none 0 0] 67 (0, 0)) ∧ Fr no w w') := fun w' hf => ⟨hf.heap E1 (fun f => f), hf.heap E2 (fun f => f), F.new hf (fun _ _ f => f)⟩
 have HSZ : Hid (w.heap.size + 1 < W.heap.size) := lt_of_heap E2
 have HS0 : Hid (Fr no W W.drew) := (Fr.refl no W).drew
 clear G1 G2 F E1 E2 hl ht
 go_enter Tryz.func141, Tryz.ntmps141
 go_wp2_with fail
 refine late_begin (S := fun w' => Fr no W w') (g := 7) (by kernel_rfl) ?_
 refine late_pure 0 (ptr w.heap.size 1) rfl (by kernel_rfl) (by kernel_rfl) (by kernel_rfl) (fun _ _ _ h => h) (by decide) (yields rfl (fun _ _ => ev_field 67 1 1 (ptr w.heap.size 0) _ rfl (by kernel_rfl) (by kernel_rfl))) (fun _ => HS0.out) ?_
 refine late_pure 3 (ptr w.heap.size 2) rfl (by kernel_rfl) (by kernel_rfl) (by kernel_rfl) (fun _ _ _ h => h) (by decide) (yields rfl (fun _ _ => ev_field 67 1 2 (ptr w.heap.size 0) _ rfl (by kernel_rfl) (by kernel_rfl))) (fun _ => HS0.out) ?_
 refine late_take 1 (.slice la ln lc) rfl (by kernel_rfl) (by kernel_rfl) (by kernel_rfl) (fun _ _ _ h => h) (waits_of (by kernel_rfl)) (by decide) (by kernel_rfl) (yields rfl (fun w' hS => ev_load 42 3 (ptr w.heap.size 1) _ rfl (by kernel_rfl) (by simp [go_sem, cell_at (o := 1) (HK.out w' hS).1]))) (HS0.out) ?_
 refine late_take 4 (.slice ta tn tc) rfl (by kernel_rfl) (by kernel_rfl) (by kernel_rfl) (fun _ _ _ h => h) (waits_of (by kernel_rfl)) (by decide) (by kernel_rfl) (yields rfl (fun w' hS => ev_load 42 6 (ptr w.heap.size 2) _ rfl (by kernel_rfl) (by simp [go_sem, cell_at (o := 2) (HK.out w' hS).1]))) (HS0.out) ?_
 refine late_all [2] (by kernel_rfl) (by simp) (fun jj hjj => ?_)
 obtain rfl := one_of hjj
 refine late_call (f := 94) rfl rfl (by kernel_rfl) (R := fun v w' => OwnG elTy w' v l ∧ NewV W.drew v ∧ Fr no W.drew w') (C1.mono (fun e w' ⟨v, h1, h2⟩ => ⟨v, h1, h2⟩)) (fun v w1 hv => ?_)
 obtain ⟨o1, n1, f1⟩ := hv
 have g1 : Fr no W w1 := (Fr.refl no W).drew.new f1 (fun _ _ f => f)
 refine ⟨fun _ => g1, ?_⟩
 have C2 := HC2.out w1 g1
 obtain ⟨q1, c1, rfl⟩ := o1.form
 refine late_pure 6 (ptr w.heap.size 1) rfl (by kernel_rfl) (by kernel_rfl) (by kernel_rfl) (fun _ _ _ h => h) (by decide) (yields rfl (fun _ _ => ev_field 67 1 1 (ptr w.heap.size 0) _ rfl (by kernel_rfl) (by kernel_rfl))) (fun _ => g1) ?_
 refine late_all [5] (by kernel_rfl) (by simp) (fun jj hjj => ?_)
 obtain rfl := one_of hjj
 refine late_call (f := 94) rfl rfl (by kernel_rfl) (R := fun v w' => OwnG elTy w' v t ∧ NewV w1 v ∧ Fr no w1 w') (C2.mono (fun e w' ⟨v, h1, h2⟩ => ⟨v, h1, h2⟩)) (fun v w2 hv => ?_)
 obtain ⟨o2, n2, f2⟩ := hv
 have g2 : Fr no W w2 := g1.new f2 (fun _ _ f => f)
 refine ⟨fun _ => g2, ?_⟩
 obtain ⟨q2, c2, rfl⟩ := o2.form
 refine late_all [7] (by kernel_rfl) (by simp) (fun jj hjj => ?_)
 obtain rfl := one_of hjj
 refine late_skip rfl rfl (ev_store 42 9 5 (ptr w.heap.size 1) (.slice q1 l.length c1) (w2.setCell ⟨w.heap.size, 1, none⟩ (.slice q1 l.length c1)) rfl (by kernel_rfl) (by kernel_rfl) (by simp [go_sem, cell_at (o := 1) (HK.out w2 g2).1, frozen_at (o := 1) (HK.out w2 g2).1])) ?_
 refine ⟨(fun h => Bool.noConfusion (show true = false from h)), ?_⟩
 have A1 : (w2.setCell ⟨w.heap.size, 1, none⟩ (.slice q1 l.length c1)).heap[w.heap.size]? = some (.cells #[.bool sr, .slice q1 l.length c1, .slice ta tn tc, .slice ka kn kc] 67 (0, 0)) := set_at (HK.out w2 g2).1
 refine late_pure 8 (ptr w.heap.size 2) rfl (by kernel_rfl) (by kernel_rfl) (by kernel_rfl) (fun _ _ _ h => h) (by decide) (yields rfl (fun _ _ => ev_field 67 1 2 (ptr w.heap.size 0) _ rfl (by kernel_rfl) (by kernel_rfl))) (fun h => Bool.noConfusion (show true = false from h)) ?_
 refine late_all [9] (by kernel_rfl) (by simp) (fun jj hjj => ?_)
 obtain rfl := one_of hjj
 refine late_skip rfl rfl (ev_store 42 10 8 (ptr w.heap.size 2) (.slice q2 t.length c2) ((w2.setCell ⟨w.heap.size, 1, none⟩ (.slice q1 l.length c1)).setCell ⟨w.heap.size, 2, none⟩ (.slice q2 t.length c2)) rfl (by kernel_rfl) (by kernel_rfl) (by simp [go_sem, cell_at (o := 2) A1, frozen_at (o := 2) A1])) ?_
 refine ⟨(fun h => Bool.noConfusion (show true = false from h)), ?_⟩
 refine late_done (by kernel_rfl) ?_
 have A2 : ((w2.setCell ⟨w.heap.size, 1, none⟩ (.slice q1 l.length c1)).setCell ⟨w.heap.size, 2, none⟩ (.slice q2 t.length c2)).heap[w.heap.size]? = some (.cells #[.bool sr, .slice q1 l.length c1, .slice q2 t.length c2, .slice ka kn kc] 67 (0, 0)) := set_at A1
 have F2 : Fr (fun k => k = w.heap.size) w2 ((w2.setCell ⟨w.heap.size, 1, none⟩ (.slice q1 l.length c1)).setCell ⟨w.heap.size, 2, none⟩ (.slice q2 t.length c2)) := ((Fr.refl (fun k => k = w.heap.size) w2).setCell (p := ⟨w.heap.size, 1, none⟩) (fun _ => rfl) _).setCell (p := ⟨w.heap.size, 2, none⟩) (fun _ => rfl) _
 have B2 := F2.heap (HK.out w2 g2).2.1 (by omega)
 have HO : Hid (OwnG elTy w2 (.slice q1 l.length c1) l ∧ OwnG elTy w2 (.slice q2 t.length c2) t ∧ NewV W.drew (.slice q1 l.length c1) ∧ NewV w1 (.slice q2 t.length c2) ∧ Fr no w w2 ∧ OwnG elTy w1 (.slice q1 l.length c1) l ∧ Fr no W w1) := ⟨o1.keep f2, o2, n1, n2, (HK.out w2 g2).2.2, o1, g1⟩
 clear C1 C2 HC2 f1 f2 o1 o2 n1 n2 A1 g1 g2
 generalize (w2.setCell ⟨w.heap.size, 1, none⟩ (.slice q1 l.length c1)).setCell ⟨w.heap.size, 2, none⟩ (.slice q2 t.length c2) = W3 at *
 have C4 := chain4 B2 (.bool sr) (.slice q1 l.length c1) (.slice q2 t.length c2) (.slice ka kn kc)
 have F4 := frc4 W3 (w.heap.size + 1) (.bool sr) (.slice q1 l.length c1) (.slice q2 t.length c2) (.slice ka kn kc)
 obtain ⟨y0, y1, y2, y3⟩ := box4 A2
 obtain ⟨z0, z1, z2, z3⟩ := box4 B2
 have fz := fun o => frozen_at (o := o) B2
 have HZ : Hid (_ ∧ _ ∧ _) := ⟨C4, F4, F2⟩
 clear C4 F4 F2
 rename_i ha _ _ _
 refine ha _ _ ?_
 refine wp_eq (a' := { tmps := #[.agg #[.bool sr, .slice la ln lc, .slice ta tn tc, .slice ka kn kc], .pointer (some ⟨w.heap.size, 0, none⟩), .pointer (some ⟨w.heap.size + 1, 0, none⟩), .pointer (some ⟨w.heap.size, 1, none⟩), .slice la ln lc, .slice q1 l.length c1, .pointer (some ⟨w.heap.size, 2, none⟩), .slice ta tn tc, .slice q2 t.length c2, .pointer (some ⟨w.heap.size, 1, none⟩), .pointer (some ⟨w.heap.size, 2, none⟩), undef], defers := [] }) (by kernel_rfl) ?_
 go_wp2_with fail
 refine bodyPost_ret (results_121 _ (w.heap.size + 1) _ _ _ _ HZ.out.1 _ rfl) rfl ?_
 obtain ⟨c4, f4, f2⟩ := HZ.out
 obtain ⟨o1, o2, n1, n2, fw, o1', gw⟩ := HO.out
 have hsz := HSZ.out
 have ff : Fr no w w2 := fw
 have f24 : Fr (fun k => k = w.heap.size ∨ k = w.heap.size + 1) w2 _ := f2.trans f4 (fun _ _ e => .inl e) (fun _ _ e => .inr e)
 refine ⟨⟨sr, ⟨q1, l.length, c1⟩, ⟨q2, t.length, c2⟩, ⟨ka, kn, kc⟩⟩, rfl, ⟨rfl, rfl, o1.kept f24 (fun k hk e => ?_), o2.kept f24 (fun k hk e => ?_), fun k hk => ?_, fun k hk => ?_, fun g hg e => ?_, ff.new f24 (fun i hi e => by omega)⟩⟩
 · have := n1 k hk
   have h2 : W.drew.heap.size = W.heap.size := rfl
   omega
 · have := n2 k hk
   have := gw.size
   omega
 · have := n1 k hk
   have h2 : W.drew.heap.size = W.heap.size := rfl
   omega
 · have := n2 k hk
   have := gw.size
   omega
 · have h1 := o1'.lt hg
   have h2 := n2 g e
   omega
end Go.Proofs.YtalgjpmaafooeaaGreatDoor
