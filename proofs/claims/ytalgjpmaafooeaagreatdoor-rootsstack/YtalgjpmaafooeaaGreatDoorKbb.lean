/- The one class Main as a literal; a row of instructions of one's own. -/
import Derived.Test.YtalgjpmaafooeaaGreatDoorKaz
import Derived.Test.YtalgjpmaafooeaaGreatDoorKba
import Derived.Test.YtalgjpmaafooeaaGreatDoorKam
namespace Go.Proofs.YtalgjpmaafooeaaGreatDoor
open Go.ChangeShapes Go.WideShapes Go.ChangeAt Go.RowKit
open H (ky Owns MapOf ix NewV)
def Row (w wr : World) (v : Value) (l : List (Int × Int)) : Prop := OwnG elIn wr v l ∧ NewV w v ∧ Fr no w wr
theorem Row.nil (w : World) : Row w w (.slice none 0 0) [] := ⟨OwnG.nil _ _, NewV.nil _, Fr.refl no w⟩
theorem Row.step {w wr wa w' : World} {v v' : Value} {l m : List (Int × Int)} (h : Row w wr v l) (f : Fr no wr wa) (o : OwnG elIn w' v' (l ++ m)) (s : Sp no v wa v' w') : Row w w' v' (l ++ m) := by
 obtain ⟨n1, f1⟩ := h.2.1.step (h.2.2.new f (fun _ _ f => f)) s
 exact ⟨o, n1, f1⟩
theorem main_lit (w : World) (lo st : Int) (ca pa : Option Addr) (cn cc pn pc : Nat) (cd : List (Int × Int)) (pool : List Cs) (hc : SlG elIn w (.slice ca cn cc) cd) (hp : SlG elCs w (.slice pa pn pc) pool) :
 CsAt ((w.alloc (.cells #[.string ⟨#[109, 97, 105, 110]⟩, .slice none 0 0, .int .i64 0, .string ⟨#[]⟩, .int .i64 lo, .int .i64 st, .slice ca cn cc, .slice none 0 0] 47)).alloc (.cells #[.string ⟨#[77, 97, 105, 110]⟩, .string ⟨#[]⟩, .slice pa pn pc, .slice none 0 0, .slice (some ⟨w.heap.size, 0, none⟩) 1 1] 51)) (.slice (some ⟨w.heap.size + 1, 0, none⟩) 1 1) [mainK lo st cd pool] ∧ Fr no w ((w.alloc (.cells #[.string ⟨#[109, 97, 105, 110]⟩, .slice none 0 0, .int .i64 0, .string ⟨#[]⟩, .int .i64 lo, .int .i64 st, .slice ca cn cc, .slice none 0 0] 47)).alloc (.cells #[.string ⟨#[77, 97, 105, 110]⟩, .string ⟨#[]⟩, .slice pa pn pc, .slice none 0 0, .slice (some ⟨w.heap.size, 0, none⟩) 1 1] 51)) := by
 have G1 : Fr no w (w.alloc (.cells #[.string ⟨#[109, 97, 105, 110]⟩, .slice none 0 0, .int .i64 0, .string ⟨#[]⟩, .int .i64 lo, .int .i64 st, .slice ca cn cc, .slice none 0 0] 47)) := (Fr.refl no w).alloc _ _
 have O1 : OwnG elMs (w.alloc (.cells #[.string ⟨#[109, 97, 105, 110]⟩, .slice none 0 0, .int .i64 0, .string ⟨#[]⟩, .int .i64 lo, .int .i64 st, .slice ca cn cc, .slice none 0 0] 47)) (.slice (some ⟨w.heap.size, 0, none⟩) 1 1) [⟨smain, ⟨none, 0, 0⟩, ⟨0, e0⟩, lo, st, ⟨ca, cn, cc⟩, ⟨none, 0, 0⟩⟩] := own_lit okMs w [⟨smain, ⟨none, 0, 0⟩, ⟨0, e0⟩, lo, st, ⟨ca, cn, cc⟩, ⟨none, 0, 0⟩⟩] _ rfl (show 1 ≤ maxLen by decide)
 have s1 : (w.alloc (.cells #[.string ⟨#[109, 97, 105, 110]⟩, .slice none 0 0, .int .i64 0, .string ⟨#[]⟩, .int .i64 lo, .int .i64 st, .slice ca cn cc, .slice none 0 0] 47)).heap.size = w.heap.size + 1 := size_alloc _ _
 generalize hW1 : w.alloc (.cells #[.string ⟨#[109, 97, 105, 110]⟩, .slice none 0 0, .int .i64 0, .string ⟨#[]⟩, .int .i64 lo, .int .i64 st, .slice ca cn cc, .slice none 0 0] 47) = W1 at *
 have G2 : Fr no W1 (W1.alloc (.cells #[.string ⟨#[77, 97, 105, 110]⟩, .string ⟨#[]⟩, .slice pa pn pc, .slice none 0 0, .slice (some ⟨w.heap.size, 0, none⟩) 1 1] 51)) := (Fr.refl no W1).alloc _ _
 have O2 : OwnG elKs (W1.alloc (.cells #[.string ⟨#[77, 97, 105, 110]⟩, .string ⟨#[]⟩, .slice pa pn pc, .slice none 0 0, .slice (some ⟨w.heap.size, 0, none⟩) 1 1] 51)) (.slice (some ⟨W1.heap.size, 0, none⟩) 1 1) [⟨sMain, e0, ⟨pa, pn, pc⟩, ⟨none, 0, 0⟩, ⟨some ⟨w.heap.size, 0, none⟩, 1, 1⟩⟩] := own_lit okKs W1 [⟨sMain, e0, ⟨pa, pn, pc⟩, ⟨none, 0, 0⟩, ⟨some ⟨w.heap.size, 0, none⟩, 1, 1⟩⟩] _ rfl (show 1 ≤ maxLen by decide)
 generalize hW2 : W1.alloc (.cells #[.string ⟨#[77, 97, 105, 110]⟩, .string ⟨#[]⟩, .slice pa pn pc, .slice none 0 0, .slice (some ⟨w.heap.size, 0, none⟩) 1 1] 51) = W2 at *
 have F2 : Fr no w W2 := G1.new G2 (fun _ _ f => f)
 rw [s1] at O2
 refine ⟨⟨_, O2.sl okKs, rfl, fun i k c hk hc' => ?_⟩, F2⟩
 match i, hk, hc' with
 | 0, hk, hc' =>
  simp only [List.getElem?_cons_zero, Option.some.injEq] at hk hc'
  subst hk hc'
  refine ⟨rfl, rfl, hp.kept F2, SlG.nil _ _, _, (O1.keep G2).sl okMs, rfl, fun j x m hx hm => ?_⟩
  match j, hx, hm with
  | 0, hx, hm =>
   simp only [mainK, mainN, List.getElem?_cons_zero, Option.some.injEq] at hx hm
   subst hx hm
   exact ⟨rfl, rfl, rfl, rfl, SlG.nil _ _, (hc.kept F2).i, SlG.nil _ _⟩
  | j + 1, hx, hm => simp at hx
 | i + 1, hk, hc' => simp at hk
end Go.Proofs.YtalgjpmaafooeaaGreatDoor
/- What is known of roots: a null in Main's own main. -/
namespace Go.Proofs.YtalgjpmaafooeaaGreatDoor
open Go.ChangeShapes Go.WideShapes Go.ChangeAt Go.RowKit
open H (ky Owns MapOf ix NewV)
theorem bcells {w : World} {o : Option Addr} {n c : Nat} {l : List Bool} (h : H.OwnG elB w (.slice o n c) l) (hp : 0 < l.length) : ∃ b off, o = some ⟨b, off, none⟩ ∧ ∀ i x, l[i]? = some x → w.cell? ⟨b, off + i, none⟩ = some (.bool x) := by
 obtain ⟨ad, cap, e, -, -, -, hit⟩ := h.sl
 simp only [Value.slice.injEq] at e
 obtain ⟨rfl, -, -⟩ := e
 obtain ⟨b, off, e, -⟩ := hit 0 _ (List.getElem?_eq_getElem hp)
 refine ⟨b, off, e, fun i x hx => ?_⟩
 obtain ⟨b', off', e', hc⟩ := hit i x hx
 rw [e] at e'
 simp only [Option.some.injEq, Addr.mk.injEq, and_true] at e'
 obtain ⟨rfl, rfl⟩ := e'
 exact hc
set_option maxRecDepth 100000 in
set_option maxHeartbeats 4000000 in
theorem rKnown_any (w : World) (T : Tb w) (R : Tr w) : Calls Tryz.prog 9 #[] w fun e w' => e = .returned (.bool true) ∧ Fr no w w' := by
 obtain ⟨ps, ⟨lb, ls⟩, A1, L1, b1, hl3, st1⟩ := ask_kk3
 simp only at b1
 subst b1
 have HK : Hid (∀ w', Fr no w w' → Tb w' ∧ Tr w') := fun w' hf => ⟨T.kept hf, Tr.kept R hf⟩
 have F0 : Fr no w (w.alloc (.cells #[.int .i64 3, .int .i64 0, .int .i64 6, .int .i64 0, .int .i64 33, .int .i64 0] 27)) := (Fr.refl no w).alloc _ _
 have s0 : (w.alloc (.cells #[.int .i64 3, .int .i64 0, .int .i64 6, .int .i64 0, .int .i64 33, .int .i64 0] 27)).heap.size = w.heap.size + 1 := size_alloc _ _
 obtain ⟨cs1, f1⟩ := main_lit (w.alloc (.cells #[.int .i64 3, .int .i64 0, .int .i64 6, .int .i64 0, .int .i64 33, .int .i64 0] 27)) 2 1 _ none _ _ 0 0 kk3 [] (lit_ins w kk3 _ rfl (by decide)) (SlG.nil _ _)
 have k1l : kk3.length = 3 := rfl
 rw [k1l] at cs1 f1
 rw [s0] at cs1 f1
 have L := link_any _ (HK.out _ (F0.new f1 (fun _ _ f => f))).1 (HK.out _ (F0.new f1 (fun _ _ f => f))).2 _ _ cs1 (fun c hc => by simp only [List.mem_singleton] at hc; subst hc; exact A1.fit) (by simp)
 rw [A1.link] at L
 have HF1 : Hid _ := F0.new f1 (fun _ _ f => f)
 have HA1 : Hid _ := A1
 have HL1 : Hid _ := L1
 have HX : Hid (∀ x ∈ ps.1, x.r = true) := fun x hx => by
  obtain ⟨j, hj⟩ := List.mem_iff_getElem?.1 hx
  have hj3 : j < 3 := by
   have := (List.getElem?_eq_some_iff.1 hj).1
   omega
  have := st1 j hj3
  rw [hj] at this
  rw [Option.some.inj this]
  rfl
 have H1 : Hid (ps.1[1]? = some (kS 1)) := st1 1 (by decide)
 clear T R A1 L1 st1 hl3 cs1 f1 F0
 go_enter Tryz.func9, Tryz.ntmps9
 go_wp2_with fail
 refine L.mono ?_
 rintro e w2 ⟨q, rfl, la, f2⟩
 obtain ⟨p, rfl, P, hsm⟩ := la.2 HA1.out.link
 have G2 : Fr no w w2 := HF1.out.new f2 (fun _ _ f => f)
 have M1 := rOf_any HA1.out 10 _ HL1.out rfl rfl (by decide) HX.out w2 p P hsm (HK.out w2 G2).2
 have HG2 : Hid (Fr no w w2) := G2
 clear L la P hsm f2 G2 HF1 HA1 HL1
 rw [k1l] at M1
 go_wp2_with fail
 refine M1.mono ?_
 rintro e w3 ⟨mb, m, rfl, hmb, rs, f3⟩
 have AT : Calls Tryz.prog 12 #[.pointer (some ⟨mb, 0, none⟩), .string ⟨#[77, 97, 105, 110]⟩, .string ⟨#[109, 97, 105, 110]⟩, .int .i64 1] w3 _ := at_yes rs hmb (j := 1) (by decide) (by decide) H1.out (by decide)
 have HG3 : Hid (Fr no w w3) := HG2.out.new f3 (fun _ _ f => f)
 have HRS : Hid (RS w3 m 3 ps.1 ∧ w3.cell? ⟨mb, 0, none⟩ = some (.map (some m))) := ⟨rs, hmb⟩
 clear M1 hmb rs f3 HG2 H1 HX
 go_wp2_with fail
 refine AT.mono ?_
 rintro e w4 ⟨o1, n1, c1, o2, n2, c2, rfl, rfl, rfl, a1, a2, f4⟩
 obtain ⟨b1, q1, rfl, t1⟩ := bcells a1 (by decide)
 obtain ⟨b2, q2, rfl, t2⟩ := bcells a2 (by decide)
 have u0 := t1 0 true (by decide)
 have u1 := t1 1 false (by decide)
 have u2 := t2 0 true (by decide)
 have DN : Calls Tryz.prog 13 #[.pointer (some ⟨mb, 0, none⟩), .string ⟨#[77, 97, 105, 110]⟩, .string ⟨#[109, 97, 105, 110]⟩, .int .i64 9] w4 _ := depth_no (HRS.out.1.keep f4) (f4.cell HRS.out.2 (fun f => f)) (j := 9) (by decide) (by decide)
 have HG4 : Hid (Fr no w w4) := HG3.out.new f4 (fun _ _ f => f)
 have z1 : (kS 1).lo.length = 2 := rfl
 have z2 : (kS 1).st.length = 1 := rfl
 rw [Nat.add_zero] at u0 u2
 clear AT a1 a2 t1 t2 f4 HRS HG3
 go_wp2_with fail
 refine DN.mono ?_
 rintro e w5 ⟨rfl, f5⟩
 have IR := isRef_any w5 5 ⟨#[]⟩
 have HG5 : Hid (Fr no w w5) := HG4.out.new f5 (fun _ _ f => f)
 clear DN f5 u0 u1 u2
 go_wp2_with fail
 refine IR.mono ?_
 rintro e w6 ⟨rfl, f6⟩
 have er : isR ⟨5, ⟨#[]⟩⟩ = true := by decide
 rw [er]
 go_wp2_with fail
 go_ret
 exact ⟨by simp, HG5.out.new f6 (fun _ _ f => f)⟩
end Go.Proofs.YtalgjpmaafooeaaGreatDoor
/- RootsStack: the stack's references along a row of pushes. -/
namespace Go.Proofs.YtalgjpmaafooeaaGreatDoor
open Go.ChangeShapes Go.WideShapes Go.ChangeAt Go.RowKit
open H (ky Owns MapOf ix NewV)
set_option maxRecDepth 100000 in
set_option maxHeartbeats 4000000 in
theorem rstack_any (w : World) (T : Tb w) (R : Tr w) (lv : Value) (l : List Nat) (hs : RdU w lv l) (hb : ∀ c ∈ l, c < 256) (s : Int) (hs0 : 0 ≤ s) (hs1 : s ≤ 255) :
 Calls Tryz.prog 6 #[lv, .int .u8 s] w fun e w' => e = .returned (.bool true) ∧ Fr no w w' := by
 have KN := rKnown_any w T R
 have HK : Hid (∀ w', Fr no w w' → Tb w' ∧ Tr w') := fun w' hf => ⟨T.kept hf, Tr.kept R hf⟩
 obtain ⟨la, lc, rfl, hcap, hmx, h0, hit⟩ := hs
 have HIT : Hid (∀ (w' : World), Fr no w w' → ∀ (j : Nat) (c : Nat), l[j]? = some c → ∃ b o, la = some ⟨b, o, none⟩ ∧ w'.cell? ⟨b, o + j, none⟩ = some (.int .u8 (c : Int)) ∧ c < 256) := fun w' hf j c hc => by
  obtain ⟨b, o, e, hcc⟩ := hit j c hc
  exact ⟨b, o, e, hf.cell hcc (fun f => f), hb c (List.mem_of_getElem? hc)⟩
 clear T R hit hb h0
 by_cases hlen : l.length < 1
 · have hl1 : (l.length : Int) < 1 := by omega
   have hmx' : l.length ≤ maxLen := by omega
   generalize l.length = n at *
   go_enter Tryz.func6, Tryz.ntmps6
   go_wp2_with fail
   refine KN.mono ?_
   rintro e w1 ⟨rfl, f1⟩
   go_wp2_with fail
   go_ret
   exact ⟨rfl, f1⟩
 · by_cases hlen2 : 10 < l.length
   · have hl1 : ¬ (l.length : Int) < 1 := by omega
     have hl2 : (10 : Int) < (l.length : Int) := by omega
     have hmx' : l.length ≤ maxLen := by omega
     generalize l.length = n at *
     go_enter Tryz.func6, Tryz.ntmps6
     go_wp2_with fail
     refine KN.mono ?_
     rintro e w1 ⟨rfl, f1⟩
     go_wp2_with fail
     go_ret
     exact ⟨rfl, f1⟩
   · have hl1 : ¬ (l.length : Int) < 1 := by omega
     have hl2 : ¬ (10 : Int) < (l.length : Int) := by omega
     have HLN : Hid (1 ≤ l.length ∧ l.length ≤ 10) := ⟨by omega, by omega⟩
     clear hlen hlen2 hmx hcap
     generalize hln : l.length = n at *
     go_enter Tryz.func6, Tryz.ntmps6
     go_wp2_with fail
     refine KN.mono ?_
     rintro e w1 ⟨rfl, f1⟩
     have HF1 : Hid (Fr no w w1) := f1
     clear KN f1
     go_wp2_with fail
     have P1 : OwnG elCs (w1.alloc (.cells #[.int .i64 1, .int .i64 0, .complex .f64 0 0, .string ⟨#[]⟩, .string ⟨#[]⟩, .int .i64 2, .int .i64 0, .complex .f64 0 0, .string ⟨#[]⟩, .string ⟨#[]⟩, .int .i64 3, .int .i64 0, .complex .f64 0 0, .string ⟨#[77, 97, 105, 110]⟩, .string ⟨#[]⟩] 35)) (.slice (some ⟨w1.heap.size, 0, none⟩) 3 3) pool3 := own_lit okCs w1 pool3 _ rfl (show 3 ≤ maxLen by decide)
     have G1 : Fr no w1 (w1.alloc (.cells #[.int .i64 1, .int .i64 0, .complex .f64 0 0, .string ⟨#[]⟩, .string ⟨#[]⟩, .int .i64 2, .int .i64 0, .complex .f64 0 0, .string ⟨#[]⟩, .string ⟨#[]⟩, .int .i64 3, .int .i64 0, .complex .f64 0 0, .string ⟨#[77, 97, 105, 110]⟩, .string ⟨#[]⟩] 35)) := (Fr.refl no w1).alloc _ _
     have z1 : (w1.alloc (.cells #[.int .i64 1, .int .i64 0, .complex .f64 0 0, .string ⟨#[]⟩, .string ⟨#[]⟩, .int .i64 2, .int .i64 0, .complex .f64 0 0, .string ⟨#[]⟩, .string ⟨#[]⟩, .int .i64 3, .int .i64 0, .complex .f64 0 0, .string ⟨#[77, 97, 105, 110]⟩, .string ⟨#[]⟩] 35)).heap.size = w1.heap.size + 1 := size_alloc _ _
     generalize hW2 : w1.alloc (.cells #[.int .i64 1, .int .i64 0, .complex .f64 0 0, .string ⟨#[]⟩, .string ⟨#[]⟩, .int .i64 2, .int .i64 0, .complex .f64 0 0, .string ⟨#[]⟩, .string ⟨#[]⟩, .int .i64 3, .int .i64 0, .complex .f64 0 0, .string ⟨#[77, 97, 105, 110]⟩, .string ⟨#[]⟩] 35) = W2 at *
     have G2 : Fr no W2 (W2.alloc (.cells #[.int .i64 1, .int .i64 0, .int .i64 2, .int .i64 1, .int .i64 25, .int .i64 2, .int .i64 3, .int .i64 0] 37)) := (Fr.refl no W2).alloc _ _
     have O2 : (W2.alloc (.cells #[.int .i64 1, .int .i64 0, .int .i64 2, .int .i64 1, .int .i64 25, .int .i64 2, .int .i64 3, .int .i64 0] 37)).heap[w1.heap.size + 1]? = some (.cells #[.int .i64 1, .int .i64 0, .int .i64 2, .int .i64 1, .int .i64 25, .int .i64 2, .int .i64 3, .int .i64 0] 37 (0, 0)) := by rw [← z1]; exact heap_alloc_new W2 _
     have z2 : (W2.alloc (.cells #[.int .i64 1, .int .i64 0, .int .i64 2, .int .i64 1, .int .i64 25, .int .i64 2, .int .i64 3, .int .i64 0] 37)).heap.size = w1.heap.size + 2 := by rw [size_alloc, z1]
     generalize hW3 : W2.alloc (.cells #[.int .i64 1, .int .i64 0, .int .i64 2, .int .i64 1, .int .i64 25, .int .i64 2, .int .i64 3, .int .i64 0] 37) = W3 at *
     have HP : Hid (OwnG elCs W3 (.slice (some ⟨w1.heap.size, 0, none⟩) 3 3) pool3) := P1.keep G2
     have HOP : Hid (∀ w', Fr no W3 w' → ∀ k, k < 4 → w'.cell? ⟨w1.heap.size + 1, k * 2, none⟩ = some (.int .i64 (op4 k).1) ∧ w'.cell? ⟨w1.heap.size + 1, k * 2 + 1, none⟩ = some (.int .i64 (op4 k).2)) := fun w' hf k hk => by
      have hh := hf.heap O2 (fun f => f)
      rcases four hk with rfl | rfl | rfl | rfl
      · exact ⟨cell_at hh, cell_at hh⟩
      · exact ⟨cell_at hh, cell_at hh⟩
      · exact ⟨cell_at hh, cell_at hh⟩
      · exact ⟨cell_at hh, cell_at hh⟩
     have HF3 : Hid (Fr no w W3) := HF1.out.new (G1.new G2 (fun _ _ f => f)) (fun _ _ f => f)
     have HB : Hid (w1.heap.size + 2 ≤ W3.heap.size) := by show _ ≤ _; omega
     clear P1 G1 G2 O2 z1 z2 hW2 hW3 HF1
     generalize w1.heap.size = pb at *
     go_loopw [7, 8] (fun v i wr => ∃ (j : Nat) (o : Option Addr) (c : Nat), i = .int .i64 (j : Int) ∧ j ≤ n ∧ v = .slice o j c ∧ Row W3 wr v (((l.take j).map (· % 4)).map op4)) (fun _ i _ => n - (intOf i).toNat)
     case atStart => exact ⟨0, none, 0, rfl, Nat.zero_le _, rfl, Row.nil W3⟩
     case round =>
      obtain ⟨j, o, c, rfl, hj, rfl, hR⟩ := hrel
      have HR : Hid (Row W3 wr (.slice o j c) (((l.take j).map (· % 4)).map op4)) := hR
      have HLL : Hid ((((l.take j).map (· % 4)).map op4).length = j) := by show _ = _; rw [List.length_map, List.length_map, List.length_take]; omega
      clear hR
      by_cases hlt : j < n
      · obtain ⟨c0, hcj⟩ : ∃ c, l[j]? = some c := ⟨_, List.getElem?_eq_getElem (by omega)⟩
        obtain ⟨lb, lo, rfl, kc, hc256⟩ := HIT.out wr (HF3.out.new HR.out.2.2 (fun _ _ f => f)) j c0 hcj
        have HNX : Hid (((l.take j).map (· % 4)).map op4 ++ [op4 (c0 % 4)] = ((l.take (j + 1)).map (· % 4)).map op4) := by show _ = _; rw [List.take_add_one, hcj, List.map_append, List.map_append]; rfl
        have hji : (j : Int) < (n : Int) := by omega
        have e1 : ((c0 : Int)).tmod 4 = ((c0 % 4 : Nat) : Int) := by rw [Int.tmod_eq_emod_of_nonneg (by omega)]; omega
        have hk4 : c0 % 4 < 4 := Nat.mod_lt _ (by decide)
        generalize hk : c0 % 4 = k at *
        obtain ⟨q1, q2⟩ := HOP.out wr HR.out.2.2 k hk4
        clear hcj hk
        have SRC : Hid (Src Tryz.prog elIn.n elIn.t (.slice (some ⟨wr.heap.size, 0, none⟩) 1 1) ([op4 k] : List (Int × Int)).length (cg elIn [op4 k]) (wr.alloc (.cells #[.int .i64 (op4 k).1, .int .i64 (op4 k).2] 27))) := srcG_one okIn wr (op4 k)
        have HJ : Hid (j < 10) := by show j < 10; have := HLN.out; omega
        go_wp2_with (first | (at_builtin; refine wpList_apdG okIn _ rfl rfl _ _ rfl (.slice o j c) (((l.take j).map (· % 4)).map op4) rfl (HR.out.1.keep ((Fr.refl no wr).alloc _ _)) _ rfl [op4 k] SRC.out (by simp) (by rw [HLL.out]; have := HJ.out; simp only [List.length_singleton]; omega) ?_; intro v' w3 o3 s3; obtain ⟨oo3, cc3, hv3⟩ := o3.form; have HO3 : Hid (Row W3 w3 v' (((l.take j).map (· % 4)).map op4 ++ [op4 k])) := HR.out.step ((Fr.refl no wr).alloc _ _) o3 s3; clear o3 s3; rw [List.length_append, HLL.out, List.length_singleton] at hv3; subst hv3; rw [HNX.out] at HO3) | fail)
        go_roundw
        case rel => exact ⟨j + 1, oo3, cc3, by go_num, by omega, rfl, HO3.out⟩
        case measure => simp [intOf]; omega
      · obtain rfl : j = n := by omega
        have hji : ¬ (j : Int) < (j : Int) := by omega
        have e2 : s.tmod 4 = ((s.toNat % 4 : Nat) : Int) := by rw [Int.tmod_eq_emod_of_nonneg hs0]; omega
        have hs4 : s.toNat % 4 < 4 := Nat.mod_lt _ (by decide)
        generalize hsk : s.toNat % 4 = sk at *
        have HFL : Hid (((l.take j).map (· % 4)) = l.map (· % 4)) := by show _ = _; rw [← hln, List.take_length]
        rw [HFL.out] at HR HLL
        have HKS : Hid (∀ k ∈ l.map (· % 4), k < 4) := fun k hk => by
         obtain ⟨x, -, rfl⟩ := List.mem_map.1 hk
         exact Nat.mod_lt _ (by decide)
        have HKL : Hid ((l.map (· % 4)).length = j) := by show _ = _; rw [List.length_map, hln]
        have HKI : Hid (∀ i c, l[i]? = some c → (l.map (· % 4))[i]? = some (c % 4)) := fun i c hc => by rw [List.getElem?_map, hc]; rfl
        clear HFL
        generalize hks : l.map (· % 4) = ks at *
        obtain ⟨q1, q2⟩ := HOP.out wr HR.out.2.2 sk hs4
        have SRC : Hid (Src Tryz.prog elIn.n elIn.t (.slice (some ⟨wr.heap.size, 0, none⟩) 4 4) ([op4 sk, (5, 1), (45, 0), (33, 0)] : List (Int × Int)).length (cg elIn [op4 sk, (5, 1), (45, 0), (33, 0)]) (wr.alloc (.cells #[.int .i64 (op4 sk).1, .int .i64 (op4 sk).2, .int .i64 5, .int .i64 1, .int .i64 45, .int .i64 0, .int .i64 33, .int .i64 0] 27))) := (lit_ins wr [op4 sk, (5, 1), (45, 0), (33, 0)] _ rfl (by simp)).src okIn
        have HALL : Hid (ks.map op4 ++ [op4 sk, (5, 1), (45, 0), (33, 0)] = rsC ks sk) := by show _ = _; unfold rsC rsL rsT; rw [List.append_assoc]; rfl
        have HLEN : Hid ((rsC ks sk).length = j + 4) := by show _ = _; rw [rsC_len, HKL.out]
        obtain ⟨ps, ⟨lr1, lr2⟩, AK, LK, hlr, hpl, hst⟩ := ask_row ks sk HKS.out hs4 (by rw [HKL.out]; exact HLN.out.2)
        simp only at hlr
        subst hlr
        have HX : Hid (∀ x ∈ ps.1, x.r = true) := fun x hx => by
         obtain ⟨i, hi⟩ := List.mem_iff_getElem?.1 hx
         have hi3 : i < (rsC ks sk).length := by
          have := (List.getElem?_eq_some_iff.1 hi).1
          omega
         have := hst i hi3
         rw [hi] at this
         rw [Option.some.inj this]
         unfold rsS
         split
         · rfl
         · split <;> rfl
        have HAK : Hid (Asked 3 12 [top, top] (rsC ks sk) pool3 200 (0, ps)) := AK
        have HLK : Hid (fitsP (rsC ks sk) 200 (comeP 0 [] (wk0 (rsC ks sk).length)).2 = some (true, lr2)) := LK
        have HST : Hid (∀ i, i < (rsC ks sk).length → ps.1[i]? = some (rsS ks sk i)) := hst
        have HJ : Hid (1 ≤ j ∧ j ≤ 10) := HLN.out
        clear AK LK hst hpl hlt hj hks hsk
        go_wp2_with (first | (at_builtin; refine wpList_apdG okIn _ rfl rfl _ _ rfl (.slice o j c) (ks.map op4) rfl (HR.out.1.keep ((Fr.refl no wr).alloc _ _)) _ rfl [op4 sk, (5, 1), (45, 0), (33, 0)] SRC.out (by simp) (by rw [HLL.out]; have := HJ.out; simp only [List.length_cons, List.length_nil]; omega) ?_; intro v' w3 o3 s3; obtain ⟨oo3, cc3, hv3⟩ := o3.form; have HO3 : Hid (Row W3 w3 v' (ks.map op4 ++ [op4 sk, (5, 1), (45, 0), (33, 0)])) := HR.out.step ((Fr.refl no wr).alloc _ _) o3 s3; clear o3 s3; rw [HALL.out] at HO3 hv3; rw [HLEN.out] at hv3; subst hv3; obtain ⟨cs3, f3⟩ := main_lit w3 3 12 oo3 (some ⟨pb, 0, none⟩) _ cc3 3 3 (rsC ks sk) pool3 (HO3.out.1.sl okIn) ((HP.out.keep HO3.out.2.2).sl okCs); generalize hW5 : (w3.alloc (.cells #[.string ⟨#[109, 97, 105, 110]⟩, .slice none 0 0, .int .i64 0, .string ⟨#[]⟩, .int .i64 3, .int .i64 12, .slice oo3 (j + 4) cc3, .slice none 0 0] 47)).alloc (.cells #[.string ⟨#[77, 97, 105, 110]⟩, .string ⟨#[]⟩, .slice (some ⟨pb, 0, none⟩) 3 3, .slice none 0 0, .slice (some ⟨w3.heap.size, 0, none⟩) 1 1] 51) = W5 at cs3 f3; have HCS : Hid (CsAt W5 (.slice (some ⟨w3.heap.size + 1, 0, none⟩) 1 1) [mainK 3 12 (rsC ks sk) pool3] ∧ Fr no w3 W5) := ⟨cs3, f3⟩; clear cs3 f3) | fail)
        have F5 : Fr no w W5 := (HF3.out.new HO3.out.2.2 (fun _ _ f => f)).new HCS.out.2 (fun _ _ f => f)
        have L := link_any W5 (HK.out W5 F5).1 (HK.out W5 F5).2 _ _ HCS.out.1 (fun c hc => by simp only [List.mem_singleton] at hc; subst hc; exact HAK.out.fit) (by simp)
        rw [HAK.out.link] at L
        have HF5 : Hid (Fr no w W5) := F5
        clear F5 hW5 q1 q2 SRC HCS HO3 HOP HB HP HF3 HR
        refine L.mono ?_
        rintro e w6 ⟨q, rfl, la6, f6⟩
        obtain ⟨p, rfl, PP, hsm⟩ := la6.2 HAK.out.link
        have F6 : Fr no w w6 := HF5.out.new f6 (fun _ _ f => f)
        have RO := rOf_any HAK.out 200 _ HLK.out rfl rfl (by rw [HLEN.out]; have := HJ.out; omega) HX.out w6 p PP hsm (HK.out w6 F6).2
        have HF6 : Hid (Fr no w w6) := F6
        clear L la6 PP hsm f6 F6 HF5 HX HLK HAK
        go_wp2_with fail
        refine RO.mono ?_
        rintro e w7 ⟨mb, m, rfl, hmb, rs, f7⟩
        have HF7 : Hid (Fr no w w7) := HF6.out.new f7 (fun _ _ f => f)
        have HRS : Hid (∀ w', Fr no w7 w' → RS w' m (rsC ks sk).length ps.1 ∧ w'.cell? ⟨mb, 0, none⟩ = some (.map (some m))) := fun w' hf => ⟨rs.keep hf, hf.cell hmb (fun f => f)⟩
        clear RO hmb rs f7 HF6
        go_wp2_with fail
        go_loopw [14] (fun i wr => ∃ (k : Nat), i = .int .i64 (k : Int) ∧ k ≤ j + 1 ∧ Fr no w7 wr) (fun i _ => j + 1 - (intOf i).toNat)
        case atStart => exact ⟨0, rfl, Nat.zero_le _, Fr.refl no w7⟩
        case round =>
         obtain ⟨k, rfl, hk, fk⟩ := hrel
         have HFK : Hid (Fr no w7 wr) := fk
         obtain ⟨j1, j10⟩ := HJ.out
         by_cases hlt : k ≤ j
         · have hki : (k : Int) ≤ (j : Int) := by omega
           have hsk : rsS ks sk k = ⟨true, lo3, (ks.take k).map ty4⟩ := by unfold rsS; rw [if_pos (by rw [HKL.out]; exact hlt)]
           have hx := HST.out k (by rw [HLEN.out]; omega)
           rw [hsk] at hx
           have hl3 : lo3.length = 3 := rfl
           have htk : ((ks.take k).map ty4).length = k := by rw [List.length_map, List.length_take, HKL.out]; omega
           have AT : Calls Tryz.prog 12 #[.pointer (some ⟨mb, 0, none⟩), .string ⟨#[77, 97, 105, 110]⟩, .string ⟨#[109, 97, 105, 110]⟩, .int .i64 (k : Int)] wr _ := at_yes (HRS.out wr fk).1 (HRS.out wr fk).2 (j := k) (by rw [HLEN.out]; omega) (by omega) hx (by simp only [hl3, htk]; omega)
           simp only [hl3, htk] at AT
           have HHX : Hid (ps.1[k]? = some ⟨true, lo3, (ks.take k).map ty4⟩) := hx
           clear fk hx hsk hl3
           have hk10 : k ≤ 10 := by omega
           go_wp2_with fail
           refine AT.mono ?_
           rintro e w8 ⟨o1, n1, c1, o2, n2, c2, rfl, hn1, hn2, a1, a2, f8⟩
           subst n1 n2
           obtain ⟨b1, p1, rfl, t1⟩ := bcells a1 (by decide)
           have u0 := t1 0 true (by decide)
           have u1 := t1 1 false (by decide)
           have u2 := t1 2 false (by decide)
           rw [Nat.add_zero] at u0
           have DY : Calls Tryz.prog 13 #[.pointer (some ⟨mb, 0, none⟩), .string ⟨#[77, 97, 105, 110]⟩, .string ⟨#[109, 97, 105, 110]⟩, .int .i64 (k : Int)] w8 _ := depth_yes (HRS.out w8 (HFK.out.new f8 (fun _ _ f => f))).1 (HRS.out w8 (HFK.out.new f8 (fun _ _ f => f))).2 (j := k) (by rw [HLEN.out]; omega) (by omega) HHX.out
           simp only [htk] at DY
           have HF8 : Hid (Fr no w7 w8) := HFK.out.new f8 (fun _ _ f => f)
           have HA2 : Hid (H.OwnG elB w8 (.slice o2 k c2) (((ks.take k).map ty4).map isR)) := a2
           clear AT a1 a2 t1 f8 HFK HHX htk
           go_wp2_with fail
           refine DY.mono ?_
           rintro e w9 ⟨rfl, f9⟩
           have HF9 : Hid (Fr no w7 w9) := HF8.out.new f9 (fun _ _ f => f)
           have HB2 : Hid (∀ w', Fr no w9 w' → ∀ q, q < k → ∃ b o x, o2 = some ⟨b, o, none⟩ ∧ ks[q]? = some x ∧ w'.cell? ⟨b, o + q, none⟩ = some (.bool (decide (2 ≤ x)))) := fun w' hf q hq => by
            have hqk : q < ks.length := by rw [HKL.out]; omega
            have hkq : ks[q]? = some ks[q] := List.getElem?_eq_getElem hqk
            have hlq : (((ks.take k).map ty4).map isR)[q]? = some (decide (2 ≤ ks[q])) := by
             rw [List.getElem?_map, List.getElem?_map, List.getElem?_take_of_lt hq, hkq]
             show some (isR (ty4 ks[q])) = _
             rw [isR4 (HKS.out _ (List.mem_of_getElem? hkq))]
            obtain ⟨b, o, e, t⟩ := bcells (HA2.out.keep (f9.new hf (fun _ _ f => f))) (by
             have := (List.getElem?_eq_some_iff.1 hlq).1
             omega)
            exact ⟨b, o, _, e, hkq, t q _ hlq⟩
           clear DY f9 HF8 HA2 u0 u1 u2
           go_wp2_with fail
           go_loopw [18] (fun i wr => ∃ (q : Nat), i = .int .i64 (q : Int) ∧ q ≤ k ∧ Fr no w9 wr) (fun i _ => k - (intOf i).toNat)
           case atStart => exact ⟨0, rfl, Nat.zero_le _, Fr.refl no w9⟩
           case round =>
            obtain ⟨q, rfl, hq, fq⟩ := hrel
            have HFQ : Hid (Fr no w9 wr) := fq
            clear fq
            by_cases hqk : q < k
            · have hqi : (q : Int) < (k : Int) := by omega
              have HFD : Hid (Fr no w9 wr.drew) := HFQ.out.new ((Fr.refl no wr).drew) (fun _ _ f => f)
              obtain ⟨b, o', x, rfl, hxq, cx⟩ := HB2.out wr.drew HFD.out q hqk
              obtain ⟨c0, hcj⟩ : ∃ c, l[q]? = some c := ⟨_, List.getElem?_eq_getElem (by omega)⟩
              obtain ⟨lb, lo, rfl, kc, hc256⟩ := HIT.out wr.drew ((HF7.out.new HF9.out (fun _ _ f => f)).new HFD.out (fun _ _ f => f)) q c0 hcj
              obtain rfl : c0 % 4 = x := by
               have := HKI.out q c0 hcj
               rw [hxq] at this
               exact (Option.some.inj this).symm
              have e1 : ((c0 : Int)).tmod 4 = ((c0 % 4 : Nat) : Int) := by rw [Int.tmod_eq_emod_of_nonneg (by omega)]; omega
              have hk4 : c0 % 4 < 4 := Nat.mod_lt _ (by decide)
              generalize c0 % 4 = x at *
              clear hxq hcj
              by_cases h2 : 2 ≤ x
              · have h2i : (2 : Int) ≤ (x : Int) := by omega
                rw [decide_eq_true h2] at cx
                go_wp2_with fail
                go_region
                go_wp2_with fail
                go_roundw
                case rel => exact ⟨q + 1, by go_num, by omega, HFD.out⟩
                case measure => simp [intOf]; omega
              · have h2i : ¬ (2 : Int) ≤ (x : Int) := by omega
                rw [decide_eq_false h2] at cx
                go_wp2_with fail
                go_region
                go_wp2_with fail
                go_roundw
                case rel => exact ⟨q + 1, by go_num, by omega, HFD.out⟩
                case measure => simp [intOf]; omega
            · obtain rfl : q = k := by omega
              have hqi : ¬ (q : Int) < (q : Int) := by omega
              clear hqk hq
              go_wp2_with fail
              go_roundw
              case rel => exact ⟨q + 1, by go_num, by omega, HF9.out.new HFQ.out (fun _ _ f => f)⟩
              case measure => simp [intOf]; omega
         · obtain rfl : k = j + 1 := by omega
           have hki : ¬ ((j + 1 : Nat) : Int) ≤ (j : Int) := by omega
           have hsk : rsS ks sk (j + 2) = ⟨true, [⟨4, sMain⟩, ty4 sk, top], ks.map ty4⟩ := by unfold rsS; rw [if_neg (by rw [HKL.out]; omega), if_neg (by rw [HKL.out]; omega)]
           have hx := HST.out (j + 2) (by rw [HLEN.out]; omega)
           rw [hsk] at hx
           have htk : (ks.map ty4).length = j := by rw [List.length_map, HKL.out]
           have hl3 : ([⟨4, sMain⟩, ty4 sk, top] : List Ty).length = 3 := rfl
           have AT : Calls Tryz.prog 12 #[.pointer (some ⟨mb, 0, none⟩), .string ⟨#[77, 97, 105, 110]⟩, .string ⟨#[109, 97, 105, 110]⟩, .int .i64 ((j : Int) + 2)] wr _ := at_yes (HRS.out wr HFK.out).1 (HRS.out wr HFK.out).2 (j := j + 2) (by rw [HLEN.out]; omega) (by omega) hx (by simp only [hl3, htk]; omega)
           simp only [hl3, htk] at AT
           clear fk hx hsk hl3 hlt hk
           go_wp2_with fail
           refine AT.mono ?_
           rintro e w8 ⟨o1, n1, c1, o2, n2, c2, rfl, hn1, hn2, a1, a2, f8⟩
           subst n1 n2
           obtain ⟨b1, p1, rfl, t1⟩ := bcells a1 (by simp)
           have u1 := t1 1 (isR (ty4 sk)) (by rfl)
           have u2 := t1 2 (isR top) (by rfl)
           rw [show isR top = false by decide] at u2
           rw [isR4 hs4] at u1
           have HF8 : Hid (Fr no w w8) := (HF7.out.new HFK.out (fun _ _ f => f)).new f8 (fun _ _ f => f)
           clear AT a1 a2 t1 f8 HFK
           by_cases h2 : 2 ≤ sk
           · have h2i : (2 : Int) ≤ (sk : Int) := by omega
             rw [decide_eq_true h2] at u1
             go_wp2_with fail
             go_ret
             exact ⟨by simp, HF8.out⟩
           · have h2i : ¬ (2 : Int) ≤ (sk : Int) := by omega
             rw [decide_eq_false h2] at u1
             go_wp2_with fail
             go_ret
             exact ⟨by simp; omega, HF8.out⟩
end Go.Proofs.YtalgjpmaafooeaaGreatDoor
