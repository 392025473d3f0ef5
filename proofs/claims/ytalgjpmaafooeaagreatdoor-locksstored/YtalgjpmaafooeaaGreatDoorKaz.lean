/- The statements' own Main, and what they hold to be known. -/
import Derived.Test.YtalgjpmaafooeaaGreatDoorKay
import Derived.Test.YtalgjpmaafooeaaGreatDoorRows
import Derived.Test.YtalgjpmaafooeaaGreatDoorKam
import Derived.ProofKit
import Derived.LaidMore
import Derived.OpenShut
import Derived.Stop.Joined
import Derived.Stop.LaidErr
import Derived.Lib.LaidTab
import Derived.Deep.Slices
import Derived.Deep.Grids
import Derived.Carry
namespace Go.Proofs.YtalgjpmaafooeaaGreatDoor
open Go.ChangeShapes Go.WideShapes Go.ChangeAt Go.RowKit
open H (ky Owns MapOf ix NewV)
set_option maxRecDepth 100000 in
set_option maxHeartbeats 2000000 in
theorem lOf_any (w : World) (ca : Option Addr) (cn cc : Nat) (cd : List (Int × Int)) (hc : SlG elIn w (.slice ca cn cc) cd) :
 Calls Tryz.prog 14 #[.slice ca cn cc] w fun e w' => ∃ v, e = .returned v ∧ CsAt w' v [mainK 1 1 cd []] ∧ Fr no w w' := by
 have G1 : Fr no w (w.alloc (.cells #[.string smain, .slice none 0 0, .int .i64 0, .string e0, .int .i64 1, .int .i64 1, .slice ca cn cc, .slice none 0 0] 47)) := (Fr.refl no w).alloc _ _
 have O1 : OwnG elMs (w.alloc (.cells #[.string smain, .slice none 0 0, .int .i64 0, .string e0, .int .i64 1, .int .i64 1, .slice ca cn cc, .slice none 0 0] 47)) (.slice (some ⟨w.heap.size, 0, none⟩) 1 1) [⟨smain, ⟨none, 0, 0⟩, ⟨0, e0⟩, 1, 1, ⟨ca, cn, cc⟩, ⟨none, 0, 0⟩⟩] := own_lit okMs w [⟨smain, ⟨none, 0, 0⟩, ⟨0, e0⟩, 1, 1, ⟨ca, cn, cc⟩, ⟨none, 0, 0⟩⟩] #[.string smain, .slice none 0 0, .int .i64 0, .string e0, .int .i64 1, .int .i64 1, .slice ca cn cc, .slice none 0 0] rfl (show 1 ≤ maxLen by decide)
 have s1 : (w.alloc (.cells #[.string smain, .slice none 0 0, .int .i64 0, .string e0, .int .i64 1, .int .i64 1, .slice ca cn cc, .slice none 0 0] 47)).heap.size = w.heap.size + 1 := size_alloc _ _
 generalize hW1 : w.alloc (.cells #[.string smain, .slice none 0 0, .int .i64 0, .string e0, .int .i64 1, .int .i64 1, .slice ca cn cc, .slice none 0 0] 47) = W1 at *
 have G2 : Fr no W1 (W1.alloc (.cells #[.string sMain, .string e0, .slice none 0 0, .slice none 0 0, .slice (some ⟨w.heap.size, 0, none⟩) 1 1] 51)) := (Fr.refl no W1).alloc _ _
 have O2 : OwnG elKs (W1.alloc (.cells #[.string sMain, .string e0, .slice none 0 0, .slice none 0 0, .slice (some ⟨w.heap.size, 0, none⟩) 1 1] 51)) (.slice (some ⟨W1.heap.size, 0, none⟩) 1 1) [⟨sMain, e0, ⟨none, 0, 0⟩, ⟨none, 0, 0⟩, ⟨some ⟨w.heap.size, 0, none⟩, 1, 1⟩⟩] := own_lit okKs W1 [⟨sMain, e0, ⟨none, 0, 0⟩, ⟨none, 0, 0⟩, ⟨some ⟨w.heap.size, 0, none⟩, 1, 1⟩⟩] #[.string sMain, .string e0, .slice none 0 0, .slice none 0 0, .slice (some ⟨w.heap.size, 0, none⟩) 1 1] rfl (show 1 ≤ maxLen by decide)
 generalize hW2 : W1.alloc (.cells #[.string sMain, .string e0, .slice none 0 0, .slice none 0 0, .slice (some ⟨w.heap.size, 0, none⟩) 1 1] 51) = W2 at *
 have hW1' : w.alloc (.cells #[.string ⟨#[109, 97, 105, 110]⟩, .slice none 0 0, .int .i64 0, .string ⟨#[]⟩, .int .i64 1, .int .i64 1, .slice ca cn cc, .slice none 0 0] 47) = W1 := hW1
 have hW2' : W1.alloc (.cells #[.string ⟨#[77, 97, 105, 110]⟩, .string ⟨#[]⟩, .slice none 0 0, .slice none 0 0, .slice (some ⟨w.heap.size, 0, none⟩) 1 1] 51) = W2 := hW2
 have F2 : Fr no w W2 := G1.new G2 (fun _ _ f => f)
 rw [s1] at O2
 have HZ : Hid (CsAt W2 (.slice (some ⟨w.heap.size + 1, 0, none⟩) 1 1) [mainK 1 1 cd []] ∧ Fr no w W2) := by
  refine ⟨⟨_, O2.sl okKs, rfl, fun i k c hk hc' => ?_⟩, F2⟩
  match i, hk, hc' with
  | 0, hk, hc' =>
   simp only [List.getElem?_cons_zero, Option.some.injEq] at hk hc'
   subst hk hc'
   refine ⟨rfl, rfl, SlG.nil _ _, SlG.nil _ _, _, (O1.keep G2).sl okMs, rfl, fun j x m hx hm => ?_⟩
   match j, hx, hm with
   | 0, hx, hm =>
    simp only [mainK, mainN, List.getElem?_cons_zero, Option.some.injEq] at hx hm
    subst hx hm
    exact ⟨rfl, rfl, rfl, rfl, SlG.nil _ _, (hc.kept F2).i, SlG.nil _ _⟩
   | j + 1, hx, hm => simp at hx
  | i + 1, hk, hc' => simp at hk
 clear O1 O2 G1 G2 F2 hc hW1 hW2
 go_enter Tryz.func14, Tryz.ntmps14
 go_wp2_with fail
 go_ret
 exact ⟨_, rfl, HZ.out⟩
def kk1 : List (Int × Int) := [(38, 0), (39, 0), (33, 0)]
def kk2 : List (Int × Int) := [(38, 0), (33, 0)]
theorem ask_kk1 : ∃ res lr, Asked 1 1 [] kk1 [] 10 res ∧ res.1 = 0 ∧ fitsP kk1 10 (comeP 0 [] (wk0 kk1.length)).2 = some lr ∧ lr.1 = true ∧ lr.2.A[1]? = some [0] := by
 obtain ⟨res, hr⟩ : ∃ res, settleP 1 kk1 (kk1.map fun x => ruleP x.1) 10 0 (beg sMain [] kk1.length) = some res := Option.isSome_iff_exists.1 (by decide +kernel)
 obtain ⟨lr, hl⟩ : ∃ lr, fitsP kk1 10 (comeP 0 [] (wk0 kk1.length)).2 = some lr := Option.isSome_iff_exists.1 (by decide +kernel)
 have h0 : (settleP 1 kk1 (kk1.map fun x => ruleP x.1) 10 0 (beg sMain [] kk1.length)).map (fun r => r.1) = some 0 := by decide +kernel
 have h1 : (fitsP kk1 10 (comeP 0 [] (wk0 kk1.length)).2).map (fun r => (r.1, r.2.A[1]?)) = some (true, some [0]) := by decide +kernel
 rw [hr] at h0
 rw [hl] at h1
 simp only [Option.map_some, Option.some.injEq, Prod.mk.injEq] at h0 h1
 exact ⟨res, lr, ⟨by decide +kernel, fit_main 1 1 kk1 [] nopool, .inl ⟨rfl, rfl⟩, by decide, by decide, by decide +kernel, hr⟩, h0, hl, h1.1, h1.2⟩
theorem ask_kk2 : ∃ res lr, Asked 1 1 [] kk2 [] 10 res ∧ res.1 = 0 ∧ fitsP kk2 10 (comeP 0 [] (wk0 kk2.length)).2 = some lr ∧ lr.1 = false := by
 obtain ⟨res, hr⟩ : ∃ res, settleP 1 kk2 (kk2.map fun x => ruleP x.1) 10 0 (beg sMain [] kk2.length) = some res := Option.isSome_iff_exists.1 (by decide +kernel)
 obtain ⟨lr, hl⟩ : ∃ lr, fitsP kk2 10 (comeP 0 [] (wk0 kk2.length)).2 = some lr := Option.isSome_iff_exists.1 (by decide +kernel)
 have h0 : (settleP 1 kk2 (kk2.map fun x => ruleP x.1) 10 0 (beg sMain [] kk2.length)).map (fun r => r.1) = some 0 := by decide +kernel
 have h1 : (fitsP kk2 10 (comeP 0 [] (wk0 kk2.length)).2).map (fun r => r.1) = some false := by decide +kernel
 rw [hr] at h0
 rw [hl] at h1
 simp only [Option.map_some, Option.some.injEq] at h0 h1
 exact ⟨res, lr, ⟨by decide +kernel, fit_main 1 1 kk2 [] nopool, .inl ⟨rfl, rfl⟩, by decide, by decide, by decide +kernel, hr⟩, h0, hl, h1⟩
end Go.Proofs.YtalgjpmaafooeaaGreatDoor
/- What the statements hold to be known. -/
namespace Go.Proofs.YtalgjpmaafooeaaGreatDoor
open Go.ChangeShapes Go.WideShapes Go.ChangeAt Go.RowKit
open H (ky Owns MapOf ix NewV)
set_option maxRecDepth 100000 in
set_option maxHeartbeats 2000000 in
theorem ints_one (w : World) (b1 o1 c1 b2 o2 c2 : Nat) (h1 : w.cell? ⟨b1, o1, none⟩ = some (.int .i64 0)) (h2 : w.cell? ⟨b2, o2, none⟩ = some (.int .i64 0)) :
 Calls Tryz.prog 16 #[.slice (some ⟨b1, o1, none⟩) 1 c1, .slice (some ⟨b2, o2, none⟩) 1 c2] w fun e w' => e = .returned (.bool true) ∧ Fr no w w' := by
 go_enter Tryz.func16, Tryz.ntmps16
 go_wp2_with fail
 go_loopw [5] (fun i wr => (i = .int .i64 0 ∧ wr = w) ∨ (i = .int .i64 1 ∧ Fr no w wr)) (fun i _ => 1 - (intOf i).toNat)
 case atStart => exact .inl ⟨rfl, rfl⟩
 case round =>
  rcases hrel with ⟨rfl, rfl⟩ | ⟨rfl, fr⟩
  · have HF : Hid (Fr no wr wr.drew) := (Fr.refl no wr).drew
    go_wp2_with fail
    go_region
    go_wp2_with fail
    go_roundw
    case rel => exact .inr ⟨rfl, HF.out⟩
    case measure => simp [intOf]
  · go_wp2_with fail
    go_ret
    exact ⟨rfl, fr⟩
set_option maxRecDepth 100000 in
set_option maxHeartbeats 4000000 in
theorem lKnown_any (w : World) (T : Tb w) (R : Tr w) : Calls Tryz.prog 7 #[] w fun e w' => e = .returned (.bool true) ∧ Fr no w w' := by
 obtain ⟨res1, lr1, A1, r1, L1, b1, m1⟩ := ask_kk1
 obtain ⟨res2, lr2, A2, r2, L2, b2⟩ := ask_kk2
 have HK : Hid (∀ w', Fr no w w' → Tb w' ∧ Tr w') := fun w' hf => ⟨T.kept hf, Tr.kept R hf⟩
 have O1 := lOf_any (w.alloc (.cells #[.int .i64 38, .int .i64 0, .int .i64 39, .int .i64 0, .int .i64 33, .int .i64 0] 27)) _ _ _ kk1 (lit_ins w kk1 _ rfl (by decide))
 have F0 : Fr no w (w.alloc (.cells #[.int .i64 38, .int .i64 0, .int .i64 39, .int .i64 0, .int .i64 33, .int .i64 0] 27)) := (Fr.refl no w).alloc _ _
 generalize hW1 : w.alloc (.cells #[.int .i64 38, .int .i64 0, .int .i64 39, .int .i64 0, .int .i64 33, .int .i64 0] 27) = W1 at *
 have HA1 : Hid _ := A1
 have HA2 : Hid _ := A2
 have HM1 : Hid _ := m1
 have HL1 : Hid _ := L1
 have HL2 : Hid _ := L2
 have HF0 : Hid _ := F0
 clear T R A1 A2 m1 F0 L1 L2
 obtain ⟨z1, ps1⟩ := res1
 obtain ⟨z2, ps2⟩ := res2
 obtain ⟨lb1, ls1⟩ := lr1
 obtain ⟨lb2, ls2⟩ := lr2
 simp only at r1 r2 b1 b2
 subst r1 r2 b1 b2
 have k1l : kk1.length = 3 := rfl
 rw [k1l] at O1
 go_enter Tryz.func7, Tryz.ntmps7
 go_wp2_with fail
 refine O1.mono ?_
 rintro e w1 ⟨v, rfl, cs1, f1⟩
 have G1 : Fr no w w1 := HF0.out.new f1 (fun _ _ f => f)
 have L := link_any w1 (HK.out w1 G1).1 (HK.out w1 G1).2 v _ cs1 (fun c hc => by simp only [List.mem_singleton] at hc; subst hc; exact HA1.out.fit) (by simp)
 rw [HA1.out.link] at L
 clear O1 cs1 f1
 go_wp2_with fail
 refine L.mono ?_
 rintro e w2 ⟨q, rfl, la, f2⟩
 obtain ⟨p, rfl, P, hsm⟩ := la.2 HA1.out.link
 have G2 : Fr no w w2 := G1.new f2 (fun _ _ f => f)
 have HP1 : Hid (∀ w', Fr no w2 w' → Prg w' p (allC [mainK 1 1 kk1 []]) (newC [mainK 1 1 kk1 []]).2.2) := fun w' hf => P.keep hf
 have HS1 : Hid _ := hsm
 clear L la P hsm f2 G1
 have O2 := lOf_any (w2.alloc (.cells #[.int .i64 38, .int .i64 0, .int .i64 33, .int .i64 0] 27)) _ _ _ kk2 (lit_ins w2 kk2 _ rfl (by decide))
 have F2 : Fr no w2 (w2.alloc (.cells #[.int .i64 38, .int .i64 0, .int .i64 33, .int .i64 0] 27)) := (Fr.refl no w2).alloc _ _
 generalize hW3 : w2.alloc (.cells #[.int .i64 38, .int .i64 0, .int .i64 33, .int .i64 0] 27) = W3 at *
 have k2l : kk2.length = 2 := rfl
 rw [k2l] at O2
 go_wp2_with fail
 refine O2.mono ?_
 rintro e w3 ⟨v, rfl, cs3, f3⟩
 have g3 : Fr no w2 w3 := F2.new f3 (fun _ _ f => f)
 have G3 : Fr no w w3 := G2.new g3 (fun _ _ f => f)
 have L := link_any w3 (HK.out w3 G3).1 (HK.out w3 G3).2 v _ cs3 (fun c hc => by simp only [List.mem_singleton] at hc; subst hc; exact HA2.out.fit) (by simp)
 rw [HA2.out.link] at L
 clear O2 cs3 f3 F2
 go_wp2_with fail
 refine L.mono ?_
 rintro e w4 ⟨q, rfl, la, f4⟩
 obtain ⟨p2, rfl, P2, hsm2⟩ := la.2 HA2.out.link
 have g4 : Fr no w2 w4 := g3.new f4 (fun _ _ f => f)
 have G4 : Fr no w w4 := G2.new g4 (fun _ _ f => f)
 have M1 := lMethod_any HA1.out 10 _ HL1.out w4 p (HP1.out w4 g4) HS1.out (HK.out w4 G4).2
 have HP2 : Hid (∀ w', Fr no w4 w' → Prg w' p2 (allC [mainK 1 1 kk2 []]) (newC [mainK 1 1 kk2 []]).2.2) := fun w' hf => P2.keep hf
 have HS2 : Hid _ := hsm2
 have HG4 : Hid _ := G4
 clear L la P2 hsm2 f4 g3 G2 G3 g4 HP1 HS1 G4
 have e1 : lockE 0 true = 0 := rfl
 have e2 : lockE 0 false = 90 := rfl
 simp only [e1] at M1
 rw [k1l] at M1
 go_wp2_with fail
 refine M1.mono ?_
 rintro e w5 ⟨v5, S, C, c, rfl, f5, t5⟩
 obtain ⟨rfl, -, LK⟩ := t5 trivial
 obtain ⟨u, hu, ou⟩ := LK 1 (by decide) [0] HM1.out
 have M2 := lMethod_any HA2.out 10 _ HL2.out w5 p2 (HP2.out w5 f5) HS2.out (HK.out w5 (HG4.out.new f5 (fun _ _ f => f))).2
 simp only [e2] at M2
 obtain ⟨q5, k5, hv5⟩ := ou.form
 simp only [List.length_singleton] at hv5
 subst hv5
 obtain ⟨b5, o5, rfl, cu⟩ : ∃ b o, q5 = some ⟨b, o, none⟩ ∧ w5.cell? ⟨b, o, none⟩ = some (.int .i64 0) := by
  obtain ⟨ad, cap, e, -, -, -, hit⟩ := ou.sl
  simp only [Value.slice.injEq] at e
  obtain ⟨rfl, -, -⟩ := e
  obtain ⟨bb, off, e, hcc⟩ := hit 0 _ rfl
  exact ⟨bb, off, e, hcc⟩
 have HU : Hid (∀ w', Fr no w5 w' → w'.cell? ⟨S, 7, none⟩ = some (.slice (some ⟨b5, o5, none⟩) 1 k5) ∧ w'.cell? ⟨b5, o5, none⟩ = some (.int .i64 0)) := fun w' hf => ⟨hf.cell hu (fun f => f), hf.cell cu (fun f => f)⟩
 have HF5 : Hid _ := f5
 clear M1 t5 LK f5 hu ou cu
 go_wp2_with fail
 refine M2.mono ?_
 rintro e w6 ⟨v6, S6, C6, c6, rfl, f6, -⟩
 obtain ⟨d1, d2⟩ := HU.out w6 f6
 have G6 : Fr no w6 (w6.alloc (.cells #[.int .i64 0] 3)) := (Fr.refl no w6).alloc _ _
 have d3 : (w6.alloc (.cells #[.int .i64 0] 3)).cell? ⟨w6.heap.size, 0, none⟩ = some (.int .i64 0) := cell_at (o := 0) (heap_alloc_new w6 _)
 have HF6 : Hid (Fr no w5 w6) := f6
 have IOb := ints_one (w6.alloc (.cells #[.int .i64 0] 3)) b5 o5 k5 w6.heap.size 0 1 (G6.cell d2 (fun f => f)) d3
 clear M2 f6 d3
 generalize hW7 : w6.alloc (.cells #[.int .i64 0] 3) = W7 at *
 have HG6 : Hid (Fr no w6 W7) := G6
 clear G6
 go_wp2_with fail
 refine IOb.mono ?_
 rintro e w8 ⟨rfl, f8⟩
 have f58 : Fr no w5 w8 := (HF6.out.new HG6.out (fun _ _ f => f)).new f8 (fun _ _ f => f)
 have HF8 : Hid (Fr no w w8) := (HG4.out.new HF5.out (fun _ _ f => f)).new f58 (fun _ _ f => f)
 have AL := lAsked_all HA2.out 10 _ HL2.out w8 p2 (HP2.out w8 (HF5.out.new f58 (fun _ _ f => f))) HS2.out (HK.out w8 HF8.out).2
 simp only [e2] at AL
 clear IOb f8 f58 HP2 HS2
 go_wp2_with fail
 refine AL.mono ?_
 rintro e w9 ⟨rfl, f9⟩
 go_wp2_with fail
 go_ret
 exact ⟨by simp, HF8.out.new f9 (fun _ _ f => f)⟩
end Go.Proofs.YtalgjpmaafooeaaGreatDoor
/- Whether a main of some code, with locals that are all the receiver, is accepted. -/
namespace Go.Proofs.YtalgjpmaafooeaaGreatDoor
open Go.ChangeShapes Go.WideShapes Go.ChangeAt Go.RowKit
open H (ky Owns MapOf ix NewV)
def Row (w wr : World) (v : Value) (l : List (Int × Int)) : Prop := OwnG elIn wr v l ∧ NewV w v ∧ Fr no w wr
theorem Row.nil (w : World) : Row w w (.slice none 0 0) [] := ⟨OwnG.nil _ _, NewV.nil _, Fr.refl no w⟩
theorem Row.step {w wr wa w' : World} {v v' : Value} {l m : List (Int × Int)} (h : Row w wr v l) (f : Fr no wr wa) (o : OwnG elIn w' v' (l ++ m)) (s : Sp no v wa v' w') : Row w w' v' (l ++ m) := by
 obtain ⟨n1, f1⟩ := h.2.1.step (h.2.2.new f (fun _ _ f => f)) s
 exact ⟨o, n1, f1⟩
def pre7 (k : Nat) : List (Int × Int) := (List.range k).flatMap fun (j : Nat) => [((4 : Int), (0 : Int)), (5, (j : Int) + 1)]
theorem pre7_next (k : Nat) : pre7 k ++ [(4, 0), (5, (k : Int) + 1)] = pre7 (k + 1) := by
 unfold pre7
 rw [List.range_succ, List.flatMap_append]
 rfl
theorem pre7_len (k : Nat) : (pre7 k).length = 2 * k := by
 induction k with
 | zero => simp [pre7]
 | succ k ih => rw [← pre7_next, List.length_append, ih]; simp; omega
def shift (x : Int × Int) : Int × Int := if x.1 = 22 ∨ x.1 = 23 then (x.1, x.2 + 14) else x
def allCd (l : List (Int × Int)) : List (Int × Int) := pre7 7 ++ l.map shift ++ [(33, 0)]
def pool1 : List Cs := [⟨1, 0, 0, 0, e0, e0⟩]
def tops : List Ty := [top, top, top, top, top, top, top]
theorem cdj_next {l : List (Int × Int)} {j : Nat} {x : Int × Int} (hx : l[j]? = some x) : (pre7 7 ++ (l.take j).map shift) ++ [shift x] = pre7 7 ++ (l.take (j + 1)).map shift := by
 rw [List.take_add_one, hx, List.map_append, List.append_assoc]
 rfl
theorem cdj_len {l : List (Int × Int)} {j : Nat} (h : j ≤ l.length) : (pre7 7 ++ (l.take j).map shift).length = 14 + j := by
 rw [List.length_append, pre7_len, List.length_map, List.length_take]
 omega
theorem main_lit (w : World) (lo st : Int) (ca pa : Option Addr) (cn cc pn pc : Nat) (cd : List (Int × Int)) (pool : List Cs) (hc : SlG elIn w (.slice ca cn cc) cd) (hp : SlG elCs w (.slice pa pn pc) pool) :
 CsAt ((w.alloc (.cells #[.string ⟨#[109, 97, 105, 110]⟩, .slice none 0 0, .int .i64 0, .string ⟨#[]⟩, .int .i64 lo, .int .i64 st, .slice ca cn cc, .slice none 0 0] 47)).alloc (.cells #[.string ⟨#[77, 97, 105, 110]⟩, .string ⟨#[]⟩, .slice pa pn pc, .slice none 0 0, .slice (some ⟨w.heap.size, 0, none⟩) 1 1] 51)) (.slice (some ⟨w.heap.size + 1, 0, none⟩) 1 1) [mainK lo st cd pool] ∧ Fr no w ((w.alloc (.cells #[.string ⟨#[109, 97, 105, 110]⟩, .slice none 0 0, .int .i64 0, .string ⟨#[]⟩, .int .i64 lo, .int .i64 st, .slice ca cn cc, .slice none 0 0] 47)).alloc (.cells #[.string ⟨#[77, 97, 105, 110]⟩, .string ⟨#[]⟩, .slice pa pn pc, .slice none 0 0, .slice (some ⟨w.heap.size, 0, none⟩) 1 1] 51)) := by
 have G1 : Fr no w (w.alloc (.cells #[.string ⟨#[109, 97, 105, 110]⟩, .slice none 0 0, .int .i64 0, .string ⟨#[]⟩, .int .i64 lo, .int .i64 st, .slice ca cn cc, .slice none 0 0] 47)) := (Fr.refl no w).alloc _ _
 have O1 : OwnG elMs (w.alloc (.cells #[.string ⟨#[109, 97, 105, 110]⟩, .slice none 0 0, .int .i64 0, .string ⟨#[]⟩, .int .i64 lo, .int .i64 st, .slice ca cn cc, .slice none 0 0] 47)) (.slice (some ⟨w.heap.size, 0, none⟩) 1 1) [⟨smain, ⟨none, 0, 0⟩, ⟨0, e0⟩, lo, st, ⟨ca, cn, cc⟩, ⟨none, 0, 0⟩⟩] := own_lit okMs w [⟨smain, ⟨none, 0, 0⟩, ⟨0, e0⟩, lo, st, ⟨ca, cn, cc⟩, ⟨none, 0, 0⟩⟩] _ rfl (show 1 ≤ maxLen by decide)
 have s1 : (w.alloc (.cells #[.string ⟨#[109, 97, 105, 110]⟩, .slice none 0 0, .int .i64 0, .string ⟨#[]⟩, .int .i64 lo, .int .i64 st, .slice ca cn cc, .slice none 0 0] 47)).heap.size = w.heap.size + 1 := size_alloc _ _
 generalize hW1 : w.alloc (.cells #[.string ⟨#[109, 97, 105, 110]⟩, .slice none 0 0, .int .i64 0, .string ⟨#[]⟩, .int .i64 lo, .int .i64 st, .slice ca cn cc, .slice none 0 0] 47) = W1 at *
 have G2 : Fr no W1 (W1.alloc (.cells #[.string ⟨#[77, 97, 105, 110]⟩, .string ⟨#[]⟩, .slice pa pn pc, .slice none 0 0, .slice (some ⟨w.heap.size, 0, none⟩) 1 1] 51)) := (Fr.refl no W1).alloc _ _
 have O2 : OwnG elKs (W1.alloc (.cells #[.string ⟨#[77, 97, 105, 110]⟩, .string ⟨#[]⟩, .slice pa pn pc, .slice none 0 0, .slice (some ⟨w.heap.size, 0, none⟩) 1 1] 51)) (.slice (some ⟨W1.heap.size, 0, none⟩) 1 1) [⟨sMain, e0, ⟨pa, pn, pc⟩, ⟨none, 0, 0⟩, ⟨some ⟨w.heap.size, 0, none⟩, 1, 1⟩⟩] := own_lit okKs W1 [⟨sMain, e0, ⟨pa, pn, pc⟩, ⟨none, 0, 0⟩, ⟨some ⟨w.heap.size, 0, none⟩, 1, 1⟩⟩] _ rfl (show 1 ≤ maxLen by decide)
 generalize hW2 : W1.alloc (.cells #[.string ⟨#[77, 97, 105, 110]⟩, .string ⟨#[]⟩, .slice pa pn pc, .slice none 0 0, .slice (some ⟨w.heap.size, 0, none⟩) 1 1] 51) = W2 at *
 have F2 : Fr no w W2 := G1.new G2 (fun _ _ f => f)
 rw [s1] at O2
 refine ⟨⟨_, O2.sl okKs, rfl, fun i k c hk hc' => ?_⟩, F2⟩
 match i, hk, hc' with
 | 0, hk, hc' =>
  simp only [List.getElem?_cons_zero, Option.some.injEq] at hk hc'
  subst hk hc'
  refine ⟨rfl, rfl, hp.kept F2, SlG.nil _ _, _, (O1.keep G2).sl okMs, rfl, fun j x m hx hm => ?_⟩
  match j, hx, hm with
  | 0, hx, hm =>
   simp only [mainK, mainN, List.getElem?_cons_zero, Option.some.injEq] at hx hm
   subst hx hm
   exact ⟨rfl, rfl, rfl, rfl, SlG.nil _ _, (hc.kept F2).i, SlG.nil _ _⟩
  | j + 1, hx, hm => simp at hx
 | i + 1, hk, hc' => simp at hk
set_option maxRecDepth 100000 in
set_option maxHeartbeats 4000000 in
theorem good_any (w : World) (T : Tb w) (R : Tr w) (ca : Option Addr) (cn cc : Nat) (l : List (Int × Int)) (hc : SlG elIn w (.slice ca cn cc) l) (hl : l.length ≤ 100) (hb : ∀ x ∈ l, 0 ≤ x.2 ∧ x.2 ≤ 1000) (fuel lf : Nat) (res : Int × Ps) (lr : Bool × Wk)
 (A : Asked 8 2 tops (allCd l) pool1 fuel res) (hlr : fitsP (allCd l) lf (comeP 0 [] (wk0 (allCd l).length)).2 = some lr) :
 Calls Tryz.prog 8 #[.slice ca cn cc] w fun e w' => e = .returned (.tuple #[.bool (decide (lockE res.1 lr.1 = 0)), .bool true]) ∧ Fr no w w' := by
 have HK : Hid (∀ w', Fr no w w' → Tb w' ∧ Tr w') := fun w' hf => ⟨T.kept hf, Tr.kept R hf⟩
 have HA : Hid (Asked 8 2 tops (allCd l) pool1 fuel res) := A
 have HLR : Hid (fitsP (allCd l) lf (comeP 0 [] (wk0 (allCd l).length)).2 = some lr) := hlr
 have HB : Hid (∀ x ∈ l, 0 ≤ x.2 ∧ x.2 ≤ 1000) := hb
 have HC : Hid (∀ w', Fr no w w' → ∀ (j : Nat) (x : Int × Int), l[j]? = some x → ∃ b off, ca = some ⟨b, off, none⟩ ∧ w'.cell? ⟨b, off + j * 2, none⟩ = some (.int .i64 x.1) ∧ w'.cell? ⟨b, off + j * 2 + 1, none⟩ = some (.int .i64 x.2)) := fun w' hf j x hx => by
  obtain ⟨ad, cap, e, -, -, hit⟩ := hc
  simp only [Value.slice.injEq] at e
  obtain ⟨rfl, -, -⟩ := e
  obtain ⟨b, off, e, hcs⟩ := hit j x hx
  have k0 := hcs 0 _ rfl
  have k1 := hcs 1 _ rfl
  simp only [elIn] at k0 k1
  exact ⟨b, off, e, hf.cell k0 (fun f => f), hf.cell k1 (fun f => f)⟩
 obtain ⟨ad, cap, e, -, -, -⟩ := hc
 simp only [Value.slice.injEq] at e
 obtain ⟨rfl, rfl, rfl⟩ := e
 have HL : Hid (l.length ≤ 100) := hl
 clear T R A hlr hb hl
 go_enter Tryz.func8, Tryz.ntmps8
 go_wp2_with fail
 have N0 : Row w (w.alloc (.cells #[] 27)) (.slice (some ⟨w.heap.size, 0, none⟩) 0 0) (pre7 0) := ⟨own_lit okIn w [] #[] rfl (by decide), fun k hk => by simp [Value.ownBlock] at hk; omega, (Fr.refl no w).alloc _ _⟩
 go_loopw [4, 5] (fun v i wr => ∃ (k : Nat) (o : Option Addr) (c : Nat), i = .int .i64 ((k : Int) + 1) ∧ k ≤ 7 ∧ v = .slice o (2 * k) c ∧ Row w wr v (pre7 k)) (fun _ i _ => 8 - (intOf i).toNat)
 case atStart => exact ⟨0, _, _, rfl, by omega, rfl, N0⟩
 case round =>
  obtain ⟨k, o, c, rfl, hk, rfl, hR⟩ := hrel
  have HR : Hid (Row w wr (.slice o (2 * k) c) (pre7 k)) := hR
  clear hR
  by_cases hlt : k < 7
  · have hki : (k : Int) + 1 < 8 := by omega
    go_wp2_with (first | (at_builtin; refine wpList_apdG okIn _ rfl rfl _ _ rfl (.slice o (2 * k) c) (pre7 k) rfl (HR.out.1.keep ((Fr.refl no wr).alloc _ _)) _ rfl [(4, 0), (5, (k : Int) + 1)] ((lit_ins wr [(4, 0), (5, (k : Int) + 1)] _ rfl (by simp)).src okIn) (by simp) (by rw [pre7_len]; simp only [List.length_cons, List.length_nil]; omega) ?_; intro v' w3 o3 s3; obtain ⟨oo3, cc3, hv3⟩ := o3.form; have HO3 : Hid (Row w w3 v' (pre7 k ++ [(4, 0), (5, (k : Int) + 1)])) := HR.out.step ((Fr.refl no wr).alloc _ _) o3 s3; clear o3 s3; rw [pre7_next] at HO3 hv3; rw [pre7_len] at hv3; subst hv3) | fail)
    go_wp2_with fail
    go_roundw
    case rel => exact ⟨k + 1, oo3, cc3, by go_num, by omega, rfl, HO3.out⟩
    case measure => simp [intOf]; omega
  · obtain rfl : k = 7 := by omega
    have hki : ¬ ((7 : Nat) : Int) + 1 < 8 := by omega
    go_wp2_with fail
    go_loopw [4, 7] (fun v i wr => ∃ (j : Nat) (o : Option Addr) (c : Nat), i = .int .i64 (j : Int) ∧ j ≤ l.length ∧ v = .slice o (14 + j) c ∧ Row w wr v (pre7 7 ++ (l.take j).map shift)) (fun _ i _ => l.length - (intOf i).toNat)
    case atStart => exact ⟨0, o, c, rfl, Nat.zero_le _, rfl, by rw [List.take_zero, List.map_nil, List.append_nil]; exact HR.out⟩
    case round =>
     clear HR N0 hki hk hlt
     obtain ⟨j, o, c, rfl, hj, rfl, hR⟩ := hrel
     have HR : Hid (Row w wr (.slice o (14 + j) c) (pre7 7 ++ (l.take j).map shift)) := hR
     have HJ : Hid (j ≤ l.length) := hj
     have hl100 := HL.out
     clear hR
     by_cases hlt : j < l.length
     · obtain ⟨⟨x1, x2⟩, hx⟩ : ∃ x, l[j]? = some x := ⟨_, List.getElem?_eq_getElem hlt⟩
       obtain ⟨cb, co, rfl, k0, k1⟩ := HC.out wr HR.out.2.2 j _ hx
       obtain ⟨q0, q1⟩ := HB.out _ (List.mem_of_getElem? hx)
       simp only at k0 k1 q0 q1
       have hji : (j : Int) < (l.length : Int) := by omega
       by_cases e22 : x1 = 22
       · subst e22
         have HSH : Hid ((22, x2 + 14) = shift (22, x2)) := by show _ = _; simp [shift]
         have HG : Hid (Fr no wr (wr.alloc (.cells #[.int .i64 22, .int .i64 (x2 + 14)] 27))) := (Fr.refl no wr).alloc _ _
         have SRC : Hid (Src Tryz.prog elIn.n elIn.t (.slice (some ⟨wr.heap.size + 1, 0, none⟩) 1 1) ([(22, x2 + 14)] : List (Int × Int)).length (cg elIn [(22, x2 + 14)]) ((wr.alloc (.cells #[.int .i64 22, .int .i64 (x2 + 14)] 27)).alloc (.cells #[.int .i64 22, .int .i64 (x2 + 14)] 27))) := by have := srcG_one okIn (wr.alloc (.cells #[.int .i64 22, .int .i64 (x2 + 14)] 27)) (22, x2 + 14); rw [size_alloc] at this; exact this
         go_wp2_with (first | (at_builtin; refine wpList_apdG okIn _ rfl rfl _ _ rfl (.slice o (14 + j) c) (pre7 7 ++ (l.take j).map shift) rfl (HR.out.1.keep (HG.out.alloc _ _)) _ rfl [(22, x2 + 14)] SRC.out (by simp) (by rw [cdj_len HJ.out]; have := HL.out; have := HJ.out; simp only [List.length_cons, List.length_nil]; omega) ?_; intro v' w3 o3 s3; obtain ⟨oo3, cc3, hv3⟩ := o3.form; have HO3 : Hid (Row w w3 v' (pre7 7 ++ (l.take j).map shift ++ [(22, x2 + 14)])) := HR.out.step (HG.out.alloc _ _) o3 s3; clear o3 s3; rw [HSH.out, cdj_next hx] at HO3 hv3; rw [cdj_len (l := l) (j := j + 1) (by omega)] at hv3; subst hv3) | fail)
         go_wp2_with fail
         go_roundw
         case rel => exact ⟨j + 1, oo3, cc3, by go_num, by omega, rfl, HO3.out⟩
         case measure => simp [intOf]; omega
       · by_cases e23 : x1 = 23
         · subst e23
           have HSH : Hid ((23, x2 + 14) = shift (23, x2)) := by show _ = _; simp [shift]
           have HG : Hid (Fr no wr (wr.alloc (.cells #[.int .i64 23, .int .i64 (x2 + 14)] 27))) := (Fr.refl no wr).alloc _ _
           have SRC : Hid (Src Tryz.prog elIn.n elIn.t (.slice (some ⟨wr.heap.size + 1, 0, none⟩) 1 1) ([(23, x2 + 14)] : List (Int × Int)).length (cg elIn [(23, x2 + 14)]) ((wr.alloc (.cells #[.int .i64 23, .int .i64 (x2 + 14)] 27)).alloc (.cells #[.int .i64 23, .int .i64 (x2 + 14)] 27))) := by have := srcG_one okIn (wr.alloc (.cells #[.int .i64 23, .int .i64 (x2 + 14)] 27)) (23, x2 + 14); rw [size_alloc] at this; exact this
           go_wp2_with (first | (at_builtin; refine wpList_apdG okIn _ rfl rfl _ _ rfl (.slice o (14 + j) c) (pre7 7 ++ (l.take j).map shift) rfl (HR.out.1.keep (HG.out.alloc _ _)) _ rfl [(23, x2 + 14)] SRC.out (by simp) (by rw [cdj_len HJ.out]; have := HL.out; have := HJ.out; simp only [List.length_cons, List.length_nil]; omega) ?_; intro v' w3 o3 s3; obtain ⟨oo3, cc3, hv3⟩ := o3.form; have HO3 : Hid (Row w w3 v' (pre7 7 ++ (l.take j).map shift ++ [(23, x2 + 14)])) := HR.out.step (HG.out.alloc _ _) o3 s3; clear o3 s3; rw [HSH.out, cdj_next hx] at HO3 hv3; rw [cdj_len (l := l) (j := j + 1) (by omega)] at hv3; subst hv3) | fail)
           go_wp2_with fail
           go_roundw
           case rel => exact ⟨j + 1, oo3, cc3, by go_num, by omega, rfl, HO3.out⟩
           case measure => simp [intOf]; omega
         · have HSH : Hid ((x1, x2) = shift (x1, x2)) := by show _ = _; simp [shift, e22, e23]
           have HG : Hid (Fr no wr (wr.alloc (.cells #[.int .i64 x1, .int .i64 x2] 27))) := (Fr.refl no wr).alloc _ _
           have SRC : Hid (Src Tryz.prog elIn.n elIn.t (.slice (some ⟨wr.heap.size + 1, 0, none⟩) 1 1) ([(x1, x2)] : List (Int × Int)).length (cg elIn [(x1, x2)]) ((wr.alloc (.cells #[.int .i64 x1, .int .i64 x2] 27)).alloc (.cells #[.int .i64 x1, .int .i64 x2] 27))) := by have := srcG_one okIn (wr.alloc (.cells #[.int .i64 x1, .int .i64 x2] 27)) (x1, x2); rw [size_alloc] at this; exact this
           have n22 : (x1 == 22) = false := by simpa using e22
           have n23 : (x1 == 23) = false := by simpa using e23
           go_wp2_with (first | (at_builtin; refine wpList_apdG okIn _ rfl rfl _ _ rfl (.slice o (14 + j) c) (pre7 7 ++ (l.take j).map shift) rfl (HR.out.1.keep (HG.out.alloc _ _)) _ rfl [(x1, x2)] SRC.out (by simp) (by rw [cdj_len HJ.out]; have := HL.out; have := HJ.out; simp only [List.length_cons, List.length_nil]; omega) ?_; intro v' w3 o3 s3; obtain ⟨oo3, cc3, hv3⟩ := o3.form; have HO3 : Hid (Row w w3 v' (pre7 7 ++ (l.take j).map shift ++ [(x1, x2)])) := HR.out.step (HG.out.alloc _ _) o3 s3; clear o3 s3; rw [HSH.out, cdj_next hx] at HO3 hv3; rw [cdj_len (l := l) (j := j + 1) (by omega)] at hv3; subst hv3) | fail)
           go_wp2_with fail
           go_roundw
           case rel => exact ⟨j + 1, oo3, cc3, by go_num, by omega, rfl, HO3.out⟩
           case measure => simp [intOf]; omega
     · obtain rfl : j = l.length := by omega
       have hji : ¬ (l.length : Int) < (l.length : Int) := by omega
       have P1 : OwnG elCs (wr.alloc (.cells #[.int .i64 1, .int .i64 0, .complex .f64 0 0, .string ⟨#[]⟩, .string ⟨#[]⟩] 35)) (.slice (some ⟨wr.heap.size, 0, none⟩) 1 1) pool1 := (own_lit okCs wr pool1 _ rfl (show 1 ≤ maxLen by decide))
       have HG : Hid (Fr no wr (wr.alloc (.cells #[.int .i64 1, .int .i64 0, .complex .f64 0 0, .string ⟨#[]⟩, .string ⟨#[]⟩] 35))) := (Fr.refl no wr).alloc _ _
       have HP1 : Hid (OwnG elCs (wr.alloc (.cells #[.int .i64 1, .int .i64 0, .complex .f64 0 0, .string ⟨#[]⟩, .string ⟨#[]⟩] 35)) (.slice (some ⟨wr.heap.size, 0, none⟩) 1 1) pool1) := P1
       have SRC : Hid (Src Tryz.prog elIn.n elIn.t (.slice (some ⟨wr.heap.size + 1, 0, none⟩) 1 1) ([(33, 0)] : List (Int × Int)).length (cg elIn [(33, 0)]) ((wr.alloc (.cells #[.int .i64 1, .int .i64 0, .complex .f64 0 0, .string ⟨#[]⟩, .string ⟨#[]⟩] 35)).alloc (.cells #[.int .i64 33, .int .i64 0] 27))) := by have := srcG_one okIn (wr.alloc (.cells #[.int .i64 1, .int .i64 0, .complex .f64 0 0, .string ⟨#[]⟩, .string ⟨#[]⟩] 35)) (33, 0); rw [size_alloc] at this; exact this
       have HALL : Hid (pre7 7 ++ (l.take l.length).map shift ++ [(33, 0)] = allCd l) := by show _ = _; rw [List.take_length]; rfl
       have HLEN : Hid ((allCd l).length = 14 + l.length + 1) := by show _ = _; rw [← HALL.out, List.length_append, cdj_len (Nat.le_refl _)]; rfl
       clear P1 HC
       go_wp2_with (first | (at_builtin; refine wpList_apdG okIn _ rfl rfl _ _ rfl (.slice o (14 + l.length) c) (pre7 7 ++ (l.take l.length).map shift) rfl (HR.out.1.keep (HG.out.alloc _ _)) _ rfl [(33, 0)] SRC.out (by simp) (by rw [cdj_len HJ.out]; have := HL.out; simp only [List.length_cons, List.length_nil]; omega) ?_; intro v' w3 o3 s3; obtain ⟨oo3, cc3, hv3⟩ := o3.form; have HO3 : Hid (Row w w3 v' (pre7 7 ++ (l.take l.length).map shift ++ [(33, 0)])) := HR.out.step (HG.out.alloc _ _) o3 s3; have HP3 : Hid (OwnG elCs w3 (.slice (some ⟨wr.heap.size, 0, none⟩) 1 1) pool1) := (HP1.out.keep ((Fr.refl no _).alloc _ _)).kept s3.1 (fun k hk e => by have h1 := e.resolve_left (fun f => f); have h2 := HR.out.1.lt h1; simp [Value.ownBlock] at hk; omega); clear o3 s3; rw [HALL.out] at HO3 hv3; rw [HLEN.out] at hv3; subst hv3; obtain ⟨cs3, f3⟩ := main_lit w3 8 2 oo3 (some ⟨wr.heap.size, 0, none⟩) _ cc3 1 1 (allCd l) pool1 (HO3.out.1.sl okIn) (HP3.out.sl okCs); generalize hW5 : (w3.alloc (.cells #[.string ⟨#[109, 97, 105, 110]⟩, .slice none 0 0, .int .i64 0, .string ⟨#[]⟩, .int .i64 8, .int .i64 2, .slice oo3 (14 + l.length + 1) cc3, .slice none 0 0] 47)).alloc (.cells #[.string ⟨#[77, 97, 105, 110]⟩, .string ⟨#[]⟩, .slice (some ⟨wr.heap.size, 0, none⟩) 1 1, .slice none 0 0, .slice (some ⟨w3.heap.size, 0, none⟩) 1 1] 51) = W5 at cs3 f3; have HCS : Hid (CsAt W5 (.slice (some ⟨w3.heap.size + 1, 0, none⟩) 1 1) [mainK 8 2 (allCd l) pool1] ∧ Fr no w3 W5) := ⟨cs3, f3⟩; clear cs3 f3) | fail)
       have F5 : Fr no w W5 := HO3.out.2.2.new HCS.out.2 (fun _ _ f => f)
       have L := link_any W5 (HK.out W5 F5).1 (HK.out W5 F5).2 _ _ HCS.out.1 (fun c hc => by simp only [List.mem_singleton] at hc; subst hc; exact HA.out.fit) (by simp)
       rw [HA.out.link] at L
       have HF5 : Hid (Fr no w W5) := F5
       clear F5
       refine L.mono ?_
       rintro e w6 ⟨q, rfl, la, f6⟩
       obtain ⟨p, rfl, PP, hsm⟩ := la.2 HA.out.link
       have F6 : Fr no w w6 := HF5.out.new f6 (fun _ _ f => f)
       have AL := lAsked_all HA.out lf lr HLR.out w6 p PP hsm (HK.out w6 F6).2
       have HF6 : Hid (Fr no w w6) := F6
       clear L la PP hsm f6 F6
       generalize hz : lockE res.1 lr.1 = z at AL
       have HZ : Hid (lockE res.1 lr.1 = z) := hz
       clear hz
       go_wp2_with fail
       refine AL.mono ?_
       rintro e w7 ⟨rfl, f7⟩
       go_wp2_with fail
       go_ret2
       rw [HZ.out]
       exact ⟨rfl, HF6.out.new f7 (fun _ _ f => f)⟩
end Go.Proofs.YtalgjpmaafooeaaGreatDoor
/- What the program's start lays: from the rows' condition on package-level variables to the two tables that the calls read. And what came in reads as before behind a call that made new memory alone. -/
namespace Go.Proofs.YtalgjpmaafooeaaGreatDoor
open Go.ChangeShapes Go.WideShapes Go.ChangeAt Go.RowKit Go.Deep
theorem ownNone : ownKnob Tryz.prog.godebug = none := by kernel_rfl
abbrev laid2 : List (String × DataW Unit) := Rows.locksStackRow.laid
theorem door_met2 (os : Os) (args : Array Value) : laidMetH Tryz.prog laid2 ((World.doorLaid Tryz.prog 19 os).forCall (fun _ _ => 0) ⟨#[], args, []⟩).memory :=
 laidMetH_of_parts3 (fuel := 8) (laidMet_of_run' 8 (by kernel_rfl) (by kernel_rfl)) (by kernel_rfl) (by kernel_rfl)
theorem of_laid2 {W : World} (h : laidMetH Tryz.prog laid2 W) : Tb W ∧ Tr W := by
 rw [MakeChecks.laidMetH_plain _ _ _ (by kernel_rfl)] at h
 have h2 := h.tail
 have op : Lib.TabIs Tryz.prog W "loom/code.operands" .i8 opds := Lib.tabIs_of_head (g := 0) (t := 205) (e := 204) (n := 48) (zs := opds) (by kernel_rfl) (by kernel_rfl) Tryz.underlying205 Tryz.underlying204 (by kernel_rfl) (by kernel_rfl) h
 have tr : Lib.TabIs Tryz.prog W "loom/code.traits" .u8 trts := Lib.tabIs_of_head (g := 1) (t := 206) (e := 5) (n := 48) (zs := trts) (by kernel_rfl) (by kernel_rfl) Tryz.underlying206 Tryz.underlying5 (by kernel_rfl) (by kernel_rfl) h2
 exact ⟨⟨fun n hn => op.cell (g := 0) (by kernel_rfl) n hn⟩, fun n hn => tr.cell (g := 1) (by kernel_rfl) n hn⟩
theorem Fr.keptBut {w w' : World} (h : Fr no w w') (may : MemPlace → Prop) : w.keptBut w' may := by
 refine ⟨h.os, h.output, fun i hi => ?_⟩
 rw [h.block i hi (fun f => f)]
 split <;> simp_all
def elU : H.El Nat := ⟨22, 5, .int .u8 0, 1, fun n => .int .u8 (n : Int)⟩
theorem elU_ok : elU.Ok := ⟨Tryz.underlying22, by kernel_rfl, fun _ => rfl, rfl, by decide⟩
abbrev RdU (w : World) (v : Value) (l : List Nat) : Prop := H.SlG elU w v l
abbrev RdB (w : World) (v : Value) (l : List Bool) : Prop := H.SlG elB w v l
section
variable {H : Type} {enc : TypeId × Value → H} {w : World} {spare : Nat → Bool} {held : Bool}
theorem post_old {P : Program} {f : Func} {s : ChangeSpec} {apart fresh handsOn again : Bool} {W W' : World} {args : Array Value} {v : Value} {ds gs : List (DataW H)} {before pa pv : List MemPlace}
 (hW : DataW.Whole enc P f.params.toList s.vars apart W args.toList ds gs before)
 (hres : ∀ (b : Nat) (sp : Nat → Bool) (hd : Bool), DataW.TrodAll enc P W' b sp hd f.resultTypes.toList (v.resultList f.resultTypes.size) (s.fn H (ds ++ gs)).results [])
 (hargs : ∀ sp : Nat → Bool, (∀ p ∈ before, sp p.block = true) → DataW.TrodAll enc P W' 0 sp true f.params.toList args.toList (s.fn H (ds ++ gs)).args pa)
 (hvars : ∀ sp : Nat → Bool, (∀ p ∈ before, sp p.block = true) → DataW.TrodVars enc P W' sp s.vars (s.fn H (ds ++ gs)).vars pv)
 (hps : before = pa ++ pv) (hg : Fr no W W')
 (hok : ∀ (j : Nat) (t : TypeId) (r : Value), f.resultTypes[j]? = some t → (v.resultList f.resultTypes.size)[j]? = some r → Value.okWide P W' .any 0 t r) :
 s.post enc P f apart fresh handsOn again W args v W' := by
 have hlt : ∀ p ∈ before, p.block < W.heap.size := fun p hp => hW.lt p hp
 have hold : ∀ p ∈ before, (fun b => decide (b < W.heap.size)) p.block = true := fun p hp => by simpa using hlt p hp
 refine ⟨ds, gs, before, [], pa, pv, hW, hres _ _ _, hargs _ hold, hvars _ hold, World.keptBut_mono (fun p hp => ⟨hp, ?_⟩) (hg.keptBut (· ∈ before)), fun _ => ?_⟩
 · rw [hps, List.mem_append] at hp
   exact Or.inr hp
 · obtain ⟨_, _, _, _, _, hz, hn⟩ := hW
   refine ⟨hok, _, _, ([] ++ pa) ++ pv, ⟨[] ++ pa, pv, trodAll_append (hargs _ (fun _ _ => rfl)) (hres _ _ _), hvars _ (fun _ _ => rfl), rfl, ?_, ?_⟩, ?_⟩
   · intro b off hp
     have hp' : MemPlace.cell b off ∈ before := by rw [hps]; simpa using hp
     rw [hg.frozen _ (hlt _ hp')]
     exact hz b off hp'
   · intro ha
     have := hn ha
     rw [hps] at this
     simpa using this
   · intro p hp _
     rw [hps]
     simpa using hp
theorem Tryz.cells5 : Tryz.prog.cellsOf 5 = 1 := by kernel_rfl
theorem open_u8s {v : Value} {d : DataW H} {ps : List MemPlace} (hv : ∃ a len cap, v = .slice a len cap) (h : DataW.Trod enc Tryz.prog w 0 spare held 22 v d ps) : ∃ bs : List Nat, (∀ c ∈ bs, c < 256) ∧ RdU w v bs := by
 obtain ⟨a0, len0, cap0, rfl⟩ := hv
 obtain ⟨fuel, h⟩ := h
 rcases open_ints Tryz.underlying22 Tryz.underlying5 Tryz.cells5 h with ⟨e, _⟩ | ⟨a, len, cap, zs, e, _, hl, hm, hz, _, hc, hw⟩
 · have e' : Value.slice a0 len0 cap0 = .slice none 0 0 := by simpa [Value.cells] using e
   rw [e']
   exact ⟨[], fun c hc => by simp at hc, none, 0, rfl, Nat.zero_le _, Nat.zero_le _, fun _ => ⟨rfl, rfl⟩, fun i x hx => by simp at hx⟩
 · have e' : Value.slice a0 len0 cap0 = .slice (some a) len cap := by simpa [Value.cells] using e
   rw [e']
   have hlz : len ≤ zs.length := by rw [hz]; split <;> omega
   have hb : ∀ z ∈ zs, 0 ≤ z ∧ z ≤ 255 := fun z hz => by simpa [Lit.wf, IntKind.min, IntKind.max, IntKind.signed, IntKind.bits] using hw z hz
   have hln : ((zs.take len).map Int.toNat).length = len := by simp; omega
   refine ⟨(zs.take len).map Int.toNat, fun c hc' => ?_, some a, cap, by rw [hln], by rw [hln]; exact hl, hm, fun e => by simp at e, fun i c hi => ?_⟩
   · obtain ⟨z, hz1, rfl⟩ := List.mem_map.1 hc'
     have := hb z (List.mem_of_mem_take hz1)
     omega
   · rw [List.getElem?_map, List.getElem?_take] at hi
     split at hi
     · rename_i hil
       have hil' : i < zs.length := by omega
       have h1 := hc i hil'
       obtain ⟨b, o, spot⟩ := a
       have hspot : spot = none := by
        have h0 := hc 0 (by omega)
        simpa [Addr.add] using World.cell?_spot h0
       subst hspot
       rw [Addr.add_lit] at h1
       rw [List.getElem?_eq_getElem hil'] at hi
       simp at hi
       have h2 := hb zs[i] (List.getElem_mem hil')
       have e3 : zs.getD i 0 = (c : Int) := by rw [List.getD_eq_getElem?_getD, List.getElem?_eq_getElem hil', Option.getD_some]; omega
       refine ⟨b, o, rfl, ?_⟩
       rw [h1, e3]
       rfl
     · simp at hi
theorem Tryz.cells4 : Tryz.prog.cellsOf 4 = 1 := by kernel_rfl
theorem open_bls {v : Value} {d : DataW H} {ps : List MemPlace} (hv : ∃ a len cap, v = .slice a len cap) (h : DataW.Trod enc Tryz.prog w 0 (fun _ => true) held 56 v d ps) : ∃ bs : List Bool, RdB w v bs := by
 obtain ⟨a0, len0, cap0, rfl⟩ := hv
 obtain ⟨fuel, h⟩ := h
 rcases open_bools Tryz.underlying56 Tryz.underlying4 Tryz.cells4 h with ⟨e, _⟩ | ⟨a, len, cap, B, e, _, hl, hm, _, hc⟩
 · have e' : Value.slice a0 len0 cap0 = .slice none 0 0 := by simpa [Value.cells] using e
   rw [e']
   exact ⟨[], none, 0, rfl, Nat.zero_le _, Nat.zero_le _, fun _ => ⟨rfl, rfl⟩, fun i x hx => by simp at hx⟩
 · have e' : Value.slice a0 len0 cap0 = .slice (some a) len cap := by simpa [Value.cells] using e
   rw [e']
   have hln : ((List.range len).map B).length = len := by simp
   refine ⟨(List.range len).map B, some a, cap, by rw [hln], by rw [hln]; exact hl, hm, fun e => by simp at e, fun i c hi => ?_⟩
   have hil : i < len := by
    have := (List.getElem?_eq_some_iff.1 hi).1
    rwa [hln] at this
   rw [List.getElem?_map, List.getElem?_range hil] at hi
   simp only [Option.map_some, Option.some.injEq] at hi
   subst hi
   have h1 := hc i (by omega)
   obtain ⟨b, o, spot⟩ := a
   have hspot : spot = none := by
    have h0 := hc 0 (by omega)
    simpa [Addr.add] using World.cell?_spot h0
   subst hspot
   rw [Addr.add_lit] at h1
   exact ⟨b, o, rfl, h1⟩
theorem Tryz.laidOut : laidOutB Tryz.prog = true := by kernel_rfl
theorem Fr.same {W w' : World} (h : Fr no W w') {p : MemPlace} (hp : p.block < W.heap.size) : W.sameAt w' p := by
 cases p with
 | cell b o => exact World.cell?_of_block (w := W) (h.block b hp (fun f => f))
 | map b => exact h.block b hp (fun f => f)
theorem trod_after {t : TypeId} (hr : Tryz.prog.readableRec t = true) (hrow : t < Tryz.prog.types.size) {W W' : World} {v : Value} {d : DataW H} {ps : List MemPlace} (h : DataW.Trod enc Tryz.prog W 0 (fun _ => true) true t v d ps) (hf : Fr no W W')
 (hlt : ∀ x ∈ ps, x.block < W.heap.size) {sp : Nat → Bool} (hsp : ∀ x ∈ ps, sp x.block = true) : DataW.Trod enc Tryz.prog W' 0 sp true t v d ps :=
 WideElems.Trod_stays Tryz.laidOut hr hrow h (fun x hx => hf.same (hlt x hx)) (fun x hx => hsp x hx)
end
end Go.Proofs.YtalgjpmaafooeaaGreatDoor
