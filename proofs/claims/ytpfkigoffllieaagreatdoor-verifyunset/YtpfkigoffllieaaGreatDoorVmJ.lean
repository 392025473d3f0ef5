/- Numbers of two kinds. -/
import Derived.Test.YtpfkigoffllieaaGreatDoorVlJ
namespace Go.Proofs.YtpfkigoffllieaaGreatDoor
open Go.ChangeShapes Go.WideShapes Go.ChangeAt Go.RowKit
open H (ky Owns MapOf ix NewV)

def pool2 : List Cs := [⟨1, 0, 0, 0, e0, e0⟩, ⟨2, 0, 0, 0, e0, e0⟩]
theorem fit2 : ∀ x ∈ pool2, fitS x.c ∧ fitS x.m := by
  intro x hx
  simp only [pool2, List.mem_cons, List.not_mem_nil, or_false] at hx
  rcases hx with rfl | rfl <;> exact ⟨fitS_lit (by decide), fitS_lit (by decide)⟩

def psh (c : Bool) : Int × Int := if c = true then (2, 1) else (1, 0)
def mop (i : Fin 6) : Int := match i with | 0 => 8 | 1 => 16 | 2 => 14 | 3 => 20 | 4 => 10 | 5 => 18
def mout (x : Int) : Int := if x = 16 ∨ x = 18 then 47 else 46
def mcx (x : Int) : Bool := decide (x = 16 ∨ x = 20 ∨ x = 18)
def mixC (a b : Bool) (x : Int) : List (Int × Int) := [psh a, psh b, (x, 0), (mout x, 0), (33, 0)]

theorem mix_link : ∀ (a b : Bool) (i : Fin 6), linkE [mainK 3 3 (mixC a b (mop i)) pool2] = 0 := by decide +kernel
theorem mix_run : ∀ (a b : Bool) (i : Fin 6), (settleP 3 (mixC a b (mop i)) ((mixC a b (mop i)).map fun x : Int × Int => ruleP x.1) 20 0 (beg sMain [top, top] 5)).map (fun r => decide (r.1 = 0)) = some ((a == mcx (mop i)) && (b == mcx (mop i))) := by decide +kernel
theorem mix_ops : ∀ (a b : Bool) (i : Fin 6), ∀ x ∈ mixC a b (mop i), x.1 ∈ plainOps ∨ x.1 = 33 := by decide +kernel
theorem ask_mix (a b : Bool) (i : Fin 6) : ∃ res, Asked 3 3 [top, top] (mixC a b (mop i)) pool2 20 res ∧ decide (res.1 = 0) = ((a == mcx (mop i)) && (b == mcx (mop i))) := by
  obtain ⟨res, h1, h2⟩ := Option.map_eq_some_iff.1 (mix_run a b i)
  exact ⟨res, ⟨mix_link a b i, fit_main _ _ _ _ fit2, .inr (.inl ⟨rfl, rfl⟩), show 0 < 5 by decide, show 5 ≤ 200 by decide, mix_ops a b i, h1⟩, h2⟩

theorem results_12 (w : World) (r : Nat) (x0 x1 : Value) (h : w.heap[r]? = some (.cells #[x0, x1] 26 (0, 0))) (tmps : Array Value) (h2 : tmps.getD 2 undef = .pointer (some ⟨r, 0, none⟩)) :
    (results Tryz.f12 tmps).run Tryz.prog w = .ok (.agg #[x0, x1]) w := by
  have hl : (loadVar 26 ⟨r, 0, none⟩).run Tryz.prog w = .ok (.agg #[x0, x1]) w := run_loadVar_row (P := Tryz.prog) w r 26 26 #[x0, x1] (0, 0) _ h Tryz.underlying26 rfl (by kernel_rfl)
  have h2' : tmps[2]?.getD undef = .pointer (some ⟨r, 0, none⟩) := by simpa using h2
  simp [results, asAddr, h2', hl]

set_option maxRecDepth 100000 in
set_option maxHeartbeats 2000000 in
theorem push_any (w : World) (c : Bool) : Calls Tryz.prog 12 #[.bool c] w fun e w' => e = .returned (.agg #[.int .i64 (psh c).1, .int .i64 (psh c).2]) ∧ Fr no w w' := by
  have E0 : ∀ (x y : Value), (((w.alloc (.cells #[.int .i64 0, .int .i64 0] 26)).setCell ⟨w.heap.size, 0, none⟩ x).setCell ⟨w.heap.size, 1, none⟩ y).heap[w.heap.size]? = some (.cells #[x, y] 26 (0, 0)) := fun x y => chain2 (heap_alloc_new w _) x y
  have EA : ∀ (x y : Value), (w.alloc (.cells #[x, y] 26)).heap[w.heap.size]? = some (.cells #[x, y] 26 (0, 0)) := fun x y => heap_alloc_new w _
  have F : ∀ (x y : Value), Fr no w (w.alloc (.cells #[x, y] 26)) := fun x y => (Fr.refl no w).alloc _ _
  cases c
  · go_enter Tryz.func12, Tryz.ntmps12
    go_wp2_with fail
    exact bodyPost_ret (results_12 _ w.heap.size _ _ (EA _ _) _ rfl) rfl ⟨rfl, F _ _⟩
  · go_enter Tryz.func12, Tryz.ntmps12
    go_wp2_with fail
    exact bodyPost_ret (results_12 _ w.heap.size _ _ (EA _ _) _ rfl) rfl ⟨rfl, F _ _⟩

theorem pool2_lit (w : World) : SlG elCs (w.alloc (.cells #[.int .i64 1, .int .i64 0, .complex .f64 0 0, .string e0, .string e0, .int .i64 2, .int .i64 0, .complex .f64 0 0, .string e0, .string e0] 32)) (.slice (some ⟨w.heap.size, 0, none⟩) 2 2) pool2 :=
  (own_lit okCs w pool2 _ rfl (show 2 ≤ maxLen by decide)).sl okCs

set_option maxRecDepth 100000 in
set_option maxHeartbeats 4000000 in
theorem mixes_0 (w : World) (T : Tb w) (R : Tr w) (a b : Bool) (op : Int) (hi : op.tmod 6 = 0) :
    Calls Tryz.prog 4 #[.bool a, .bool b, .int .u8 op] w fun e w' => e = .returned (.bool true) ∧ Fr no w w' := by
  obtain ⟨res, AK, hres⟩ := ask_mix a b 0
  have KN := known_any w T R
  have HK : Hid (∀ w', Fr no w w' → Tb w' ∧ Tr w') := fun w' hf => ⟨T.kept hf, Tr.kept R hf⟩
  have HAK : Hid (Asked 3 3 [top, top] [psh a, psh b, (8, 0), (46, 0), (33, 0)] pool2 20 res) := AK
  have HRS : Hid (decide (res.1 = 0) = ((a == false) && (b == false))) := hres
  clear T R AK hres
  go_enter Tryz.func4, Tryz.ntmps4
  go_wp2_with fail
  refine KN.mono ?_
  rintro e w1 ⟨rfl, f1⟩
  have HF1 : Hid _ := f1
  clear KN f1
  have P1 := pool2_lit w1
  have G1 : Fr no w1 (w1.alloc (.cells #[.int .i64 1, .int .i64 0, .complex .f64 0 0, .string e0, .string e0, .int .i64 2, .int .i64 0, .complex .f64 0 0, .string e0, .string e0] 32)) := (Fr.refl no w1).alloc _ _
  have hW : ∀ W, w1.alloc (.cells #[.int .i64 1, .int .i64 0, .complex .f64 0 0, .string e0, .string e0, .int .i64 2, .int .i64 0, .complex .f64 0 0, .string e0, .string e0] 32) = W → w1.alloc (.cells #[.int .i64 1, .int .i64 0, .complex .f64 0 0, .string ⟨#[]⟩, .string ⟨#[]⟩, .int .i64 2, .int .i64 0, .complex .f64 0 0, .string ⟨#[]⟩, .string ⟨#[]⟩] 32) = W := fun W h => h
  generalize hW2 : w1.alloc (.cells #[.int .i64 1, .int .i64 0, .complex .f64 0 0, .string e0, .string e0, .int .i64 2, .int .i64 0, .complex .f64 0 0, .string e0, .string e0] 32) = W2 at P1 G1
  have hW' := hW W2 hW2
  clear hW hW2
  have HP : Hid (SlG elCs W2 (.slice (some ⟨w1.heap.size, 0, none⟩) 2 2) pool2) := P1
  have G3 : Fr no W2 (W2.alloc (.cells #[.int .i64 8, .int .i64 16, .int .i64 14, .int .i64 20, .int .i64 10, .int .i64 18] 35)) := (Fr.refl no W2).alloc _ _
  have E3 : (W2.alloc (.cells #[.int .i64 8, .int .i64 16, .int .i64 14, .int .i64 20, .int .i64 10, .int .i64 18] 35)).cell? ⟨W2.heap.size, 0, none⟩ = some (.int .i64 8) := cell_at (o := 0) (heap_alloc_new W2 _)
  generalize hW3 : W2.alloc (.cells #[.int .i64 8, .int .i64 16, .int .i64 14, .int .i64 20, .int .i64 10, .int .i64 18] 35) = W3 at *
  have HG : Hid (Fr no w1 W2 ∧ Fr no W2 W3) := ⟨G1, G3⟩
  have PA := push_any W3 a
  clear P1 G1 G3
  go_wp2_with fail
  refine PA.mono ?_
  rintro e w4 ⟨rfl, f4⟩
  have PB := push_any w4 b
  clear PA
  go_wp2_with fail
  refine PB.mono ?_
  rintro e w5 ⟨rfl, f5⟩
  have L5 := lit_ins w5 [psh a, psh b, (8, 0), (46, 0), (33, 0)] #[.int .i64 (psh a).1, .int .i64 (psh a).2, .int .i64 (psh b).1, .int .i64 (psh b).2, .int .i64 8, .int .i64 0, .int .i64 46, .int .i64 0, .int .i64 33, .int .i64 0] rfl (show 5 ≤ 1000 by decide)
  have G6 : Fr no w5 (w5.alloc (.cells #[.int .i64 (psh a).1, .int .i64 (psh a).2, .int .i64 (psh b).1, .int .i64 (psh b).2, .int .i64 8, .int .i64 0, .int .i64 46, .int .i64 0, .int .i64 33, .int .i64 0] 26)) := (Fr.refl no w5).alloc _ _
  generalize hW6 : w5.alloc (.cells #[.int .i64 (psh a).1, .int .i64 (psh a).2, .int .i64 (psh b).1, .int .i64 (psh b).2, .int .i64 8, .int .i64 0, .int .i64 46, .int .i64 0, .int .i64 33, .int .i64 0] 26) = W6 at *
  have F26 : Fr no W2 W6 := ((HG.out.2.new f4 (fun _ _ f => f)).new f5 (fun _ _ f => f)).new G6 (fun _ _ f => f)
  have F6 : Fr no w W6 := (HF1.out.new HG.out.1 (fun _ _ f => f)).new F26 (fun _ _ f => f)
  have AC := accepted_any W6 (HK.out W6 F6).1 (HK.out W6 F6).2 _ _ _ _ _ _ _ pool2 L5 (SlG.kept HP.out F26) 20 res HAK.out
  rw [HRS.out] at AC
  have l5 : ([psh a, psh b, (8, 0), (46, 0), (33, 0)] : List (Int × Int)).length = 5 := rfl
  rw [l5] at AC
  have HF6 : Hid _ := F6
  clear PB L5 G6 F26 F6 f4 f5 l5 E3 hW3
  go_wp2_with fail
  refine AC.mono ?_
  rintro e w7 ⟨rfl, f7⟩
  clear AC
  cases a <;> cases b <;> (go_wp2_with fail; go_ret; exact ⟨by first | rfl | simp, HF6.out.new f7 (fun _ _ f => f)⟩)

set_option maxRecDepth 100000 in
set_option maxHeartbeats 4000000 in
theorem mixes_1 (w : World) (T : Tb w) (R : Tr w) (a b : Bool) (op : Int) (hi : op.tmod 6 = 1) :
    Calls Tryz.prog 4 #[.bool a, .bool b, .int .u8 op] w fun e w' => e = .returned (.bool true) ∧ Fr no w w' := by
  obtain ⟨res, AK, hres⟩ := ask_mix a b 1
  have KN := known_any w T R
  have HK : Hid (∀ w', Fr no w w' → Tb w' ∧ Tr w') := fun w' hf => ⟨T.kept hf, Tr.kept R hf⟩
  have HAK : Hid (Asked 3 3 [top, top] [psh a, psh b, (16, 0), (47, 0), (33, 0)] pool2 20 res) := AK
  have HRS : Hid (decide (res.1 = 0) = ((a == true) && (b == true))) := hres
  clear T R AK hres
  go_enter Tryz.func4, Tryz.ntmps4
  go_wp2_with fail
  refine KN.mono ?_
  rintro e w1 ⟨rfl, f1⟩
  have HF1 : Hid _ := f1
  clear KN f1
  have P1 := pool2_lit w1
  have G1 : Fr no w1 (w1.alloc (.cells #[.int .i64 1, .int .i64 0, .complex .f64 0 0, .string e0, .string e0, .int .i64 2, .int .i64 0, .complex .f64 0 0, .string e0, .string e0] 32)) := (Fr.refl no w1).alloc _ _
  have hW : ∀ W, w1.alloc (.cells #[.int .i64 1, .int .i64 0, .complex .f64 0 0, .string e0, .string e0, .int .i64 2, .int .i64 0, .complex .f64 0 0, .string e0, .string e0] 32) = W → w1.alloc (.cells #[.int .i64 1, .int .i64 0, .complex .f64 0 0, .string ⟨#[]⟩, .string ⟨#[]⟩, .int .i64 2, .int .i64 0, .complex .f64 0 0, .string ⟨#[]⟩, .string ⟨#[]⟩] 32) = W := fun W h => h
  generalize hW2 : w1.alloc (.cells #[.int .i64 1, .int .i64 0, .complex .f64 0 0, .string e0, .string e0, .int .i64 2, .int .i64 0, .complex .f64 0 0, .string e0, .string e0] 32) = W2 at P1 G1
  have hW' := hW W2 hW2
  clear hW hW2
  have HP : Hid (SlG elCs W2 (.slice (some ⟨w1.heap.size, 0, none⟩) 2 2) pool2) := P1
  have G3 : Fr no W2 (W2.alloc (.cells #[.int .i64 8, .int .i64 16, .int .i64 14, .int .i64 20, .int .i64 10, .int .i64 18] 35)) := (Fr.refl no W2).alloc _ _
  have E3 : (W2.alloc (.cells #[.int .i64 8, .int .i64 16, .int .i64 14, .int .i64 20, .int .i64 10, .int .i64 18] 35)).cell? ⟨W2.heap.size, 1, none⟩ = some (.int .i64 16) := cell_at (o := 1) (heap_alloc_new W2 _)
  generalize hW3 : W2.alloc (.cells #[.int .i64 8, .int .i64 16, .int .i64 14, .int .i64 20, .int .i64 10, .int .i64 18] 35) = W3 at *
  have HG : Hid (Fr no w1 W2 ∧ Fr no W2 W3) := ⟨G1, G3⟩
  have PA := push_any W3 a
  clear P1 G1 G3
  go_wp2_with fail
  refine PA.mono ?_
  rintro e w4 ⟨rfl, f4⟩
  have PB := push_any w4 b
  clear PA
  go_wp2_with fail
  refine PB.mono ?_
  rintro e w5 ⟨rfl, f5⟩
  have L5 := lit_ins w5 [psh a, psh b, (16, 0), (47, 0), (33, 0)] #[.int .i64 (psh a).1, .int .i64 (psh a).2, .int .i64 (psh b).1, .int .i64 (psh b).2, .int .i64 16, .int .i64 0, .int .i64 47, .int .i64 0, .int .i64 33, .int .i64 0] rfl (show 5 ≤ 1000 by decide)
  have G6 : Fr no w5 (w5.alloc (.cells #[.int .i64 (psh a).1, .int .i64 (psh a).2, .int .i64 (psh b).1, .int .i64 (psh b).2, .int .i64 16, .int .i64 0, .int .i64 47, .int .i64 0, .int .i64 33, .int .i64 0] 26)) := (Fr.refl no w5).alloc _ _
  generalize hW6 : w5.alloc (.cells #[.int .i64 (psh a).1, .int .i64 (psh a).2, .int .i64 (psh b).1, .int .i64 (psh b).2, .int .i64 16, .int .i64 0, .int .i64 47, .int .i64 0, .int .i64 33, .int .i64 0] 26) = W6 at *
  have F26 : Fr no W2 W6 := ((HG.out.2.new f4 (fun _ _ f => f)).new f5 (fun _ _ f => f)).new G6 (fun _ _ f => f)
  have F6 : Fr no w W6 := (HF1.out.new HG.out.1 (fun _ _ f => f)).new F26 (fun _ _ f => f)
  have AC := accepted_any W6 (HK.out W6 F6).1 (HK.out W6 F6).2 _ _ _ _ _ _ _ pool2 L5 (SlG.kept HP.out F26) 20 res HAK.out
  rw [HRS.out] at AC
  have l5 : ([psh a, psh b, (16, 0), (47, 0), (33, 0)] : List (Int × Int)).length = 5 := rfl
  rw [l5] at AC
  have HF6 : Hid _ := F6
  clear PB L5 G6 F26 F6 f4 f5 l5 E3 hW3
  go_wp2_with fail
  refine AC.mono ?_
  rintro e w7 ⟨rfl, f7⟩
  clear AC
  cases a <;> cases b <;> (go_wp2_with fail; go_ret; exact ⟨by first | rfl | simp, HF6.out.new f7 (fun _ _ f => f)⟩)

set_option maxRecDepth 100000 in
set_option maxHeartbeats 4000000 in
theorem mixes_2 (w : World) (T : Tb w) (R : Tr w) (a b : Bool) (op : Int) (hi : op.tmod 6 = 2) :
    Calls Tryz.prog 4 #[.bool a, .bool b, .int .u8 op] w fun e w' => e = .returned (.bool true) ∧ Fr no w w' := by
  obtain ⟨res, AK, hres⟩ := ask_mix a b 2
  have KN := known_any w T R
  have HK : Hid (∀ w', Fr no w w' → Tb w' ∧ Tr w') := fun w' hf => ⟨T.kept hf, Tr.kept R hf⟩
  have HAK : Hid (Asked 3 3 [top, top] [psh a, psh b, (14, 0), (46, 0), (33, 0)] pool2 20 res) := AK
  have HRS : Hid (decide (res.1 = 0) = ((a == false) && (b == false))) := hres
  clear T R AK hres
  go_enter Tryz.func4, Tryz.ntmps4
  go_wp2_with fail
  refine KN.mono ?_
  rintro e w1 ⟨rfl, f1⟩
  have HF1 : Hid _ := f1
  clear KN f1
  have P1 := pool2_lit w1
  have G1 : Fr no w1 (w1.alloc (.cells #[.int .i64 1, .int .i64 0, .complex .f64 0 0, .string e0, .string e0, .int .i64 2, .int .i64 0, .complex .f64 0 0, .string e0, .string e0] 32)) := (Fr.refl no w1).alloc _ _
  have hW : ∀ W, w1.alloc (.cells #[.int .i64 1, .int .i64 0, .complex .f64 0 0, .string e0, .string e0, .int .i64 2, .int .i64 0, .complex .f64 0 0, .string e0, .string e0] 32) = W → w1.alloc (.cells #[.int .i64 1, .int .i64 0, .complex .f64 0 0, .string ⟨#[]⟩, .string ⟨#[]⟩, .int .i64 2, .int .i64 0, .complex .f64 0 0, .string ⟨#[]⟩, .string ⟨#[]⟩] 32) = W := fun W h => h
  generalize hW2 : w1.alloc (.cells #[.int .i64 1, .int .i64 0, .complex .f64 0 0, .string e0, .string e0, .int .i64 2, .int .i64 0, .complex .f64 0 0, .string e0, .string e0] 32) = W2 at P1 G1
  have hW' := hW W2 hW2
  clear hW hW2
  have HP : Hid (SlG elCs W2 (.slice (some ⟨w1.heap.size, 0, none⟩) 2 2) pool2) := P1
  have G3 : Fr no W2 (W2.alloc (.cells #[.int .i64 8, .int .i64 16, .int .i64 14, .int .i64 20, .int .i64 10, .int .i64 18] 35)) := (Fr.refl no W2).alloc _ _
  have E3 : (W2.alloc (.cells #[.int .i64 8, .int .i64 16, .int .i64 14, .int .i64 20, .int .i64 10, .int .i64 18] 35)).cell? ⟨W2.heap.size, 2, none⟩ = some (.int .i64 14) := cell_at (o := 2) (heap_alloc_new W2 _)
  generalize hW3 : W2.alloc (.cells #[.int .i64 8, .int .i64 16, .int .i64 14, .int .i64 20, .int .i64 10, .int .i64 18] 35) = W3 at *
  have HG : Hid (Fr no w1 W2 ∧ Fr no W2 W3) := ⟨G1, G3⟩
  have PA := push_any W3 a
  clear P1 G1 G3
  go_wp2_with fail
  refine PA.mono ?_
  rintro e w4 ⟨rfl, f4⟩
  have PB := push_any w4 b
  clear PA
  go_wp2_with fail
  refine PB.mono ?_
  rintro e w5 ⟨rfl, f5⟩
  have L5 := lit_ins w5 [psh a, psh b, (14, 0), (46, 0), (33, 0)] #[.int .i64 (psh a).1, .int .i64 (psh a).2, .int .i64 (psh b).1, .int .i64 (psh b).2, .int .i64 14, .int .i64 0, .int .i64 46, .int .i64 0, .int .i64 33, .int .i64 0] rfl (show 5 ≤ 1000 by decide)
  have G6 : Fr no w5 (w5.alloc (.cells #[.int .i64 (psh a).1, .int .i64 (psh a).2, .int .i64 (psh b).1, .int .i64 (psh b).2, .int .i64 14, .int .i64 0, .int .i64 46, .int .i64 0, .int .i64 33, .int .i64 0] 26)) := (Fr.refl no w5).alloc _ _
  generalize hW6 : w5.alloc (.cells #[.int .i64 (psh a).1, .int .i64 (psh a).2, .int .i64 (psh b).1, .int .i64 (psh b).2, .int .i64 14, .int .i64 0, .int .i64 46, .int .i64 0, .int .i64 33, .int .i64 0] 26) = W6 at *
  have F26 : Fr no W2 W6 := ((HG.out.2.new f4 (fun _ _ f => f)).new f5 (fun _ _ f => f)).new G6 (fun _ _ f => f)
  have F6 : Fr no w W6 := (HF1.out.new HG.out.1 (fun _ _ f => f)).new F26 (fun _ _ f => f)
  have AC := accepted_any W6 (HK.out W6 F6).1 (HK.out W6 F6).2 _ _ _ _ _ _ _ pool2 L5 (SlG.kept HP.out F26) 20 res HAK.out
  rw [HRS.out] at AC
  have l5 : ([psh a, psh b, (14, 0), (46, 0), (33, 0)] : List (Int × Int)).length = 5 := rfl
  rw [l5] at AC
  have HF6 : Hid _ := F6
  clear PB L5 G6 F26 F6 f4 f5 l5 E3 hW3
  go_wp2_with fail
  refine AC.mono ?_
  rintro e w7 ⟨rfl, f7⟩
  clear AC
  cases a <;> cases b <;> (go_wp2_with fail; go_ret; exact ⟨by first | rfl | simp, HF6.out.new f7 (fun _ _ f => f)⟩)

set_option maxRecDepth 100000 in
set_option maxHeartbeats 4000000 in
theorem mixes_3 (w : World) (T : Tb w) (R : Tr w) (a b : Bool) (op : Int) (hi : op.tmod 6 = 3) :
    Calls Tryz.prog 4 #[.bool a, .bool b, .int .u8 op] w fun e w' => e = .returned (.bool true) ∧ Fr no w w' := by
  obtain ⟨res, AK, hres⟩ := ask_mix a b 3
  have KN := known_any w T R
  have HK : Hid (∀ w', Fr no w w' → Tb w' ∧ Tr w') := fun w' hf => ⟨T.kept hf, Tr.kept R hf⟩
  have HAK : Hid (Asked 3 3 [top, top] [psh a, psh b, (20, 0), (46, 0), (33, 0)] pool2 20 res) := AK
  have HRS : Hid (decide (res.1 = 0) = ((a == true) && (b == true))) := hres
  clear T R AK hres
  go_enter Tryz.func4, Tryz.ntmps4
  go_wp2_with fail
  refine KN.mono ?_
  rintro e w1 ⟨rfl, f1⟩
  have HF1 : Hid _ := f1
  clear KN f1
  have P1 := pool2_lit w1
  have G1 : Fr no w1 (w1.alloc (.cells #[.int .i64 1, .int .i64 0, .complex .f64 0 0, .string e0, .string e0, .int .i64 2, .int .i64 0, .complex .f64 0 0, .string e0, .string e0] 32)) := (Fr.refl no w1).alloc _ _
  have hW : ∀ W, w1.alloc (.cells #[.int .i64 1, .int .i64 0, .complex .f64 0 0, .string e0, .string e0, .int .i64 2, .int .i64 0, .complex .f64 0 0, .string e0, .string e0] 32) = W → w1.alloc (.cells #[.int .i64 1, .int .i64 0, .complex .f64 0 0, .string ⟨#[]⟩, .string ⟨#[]⟩, .int .i64 2, .int .i64 0, .complex .f64 0 0, .string ⟨#[]⟩, .string ⟨#[]⟩] 32) = W := fun W h => h
  generalize hW2 : w1.alloc (.cells #[.int .i64 1, .int .i64 0, .complex .f64 0 0, .string e0, .string e0, .int .i64 2, .int .i64 0, .complex .f64 0 0, .string e0, .string e0] 32) = W2 at P1 G1
  have hW' := hW W2 hW2
  clear hW hW2
  have HP : Hid (SlG elCs W2 (.slice (some ⟨w1.heap.size, 0, none⟩) 2 2) pool2) := P1
  have G3 : Fr no W2 (W2.alloc (.cells #[.int .i64 8, .int .i64 16, .int .i64 14, .int .i64 20, .int .i64 10, .int .i64 18] 35)) := (Fr.refl no W2).alloc _ _
  have E3 : (W2.alloc (.cells #[.int .i64 8, .int .i64 16, .int .i64 14, .int .i64 20, .int .i64 10, .int .i64 18] 35)).cell? ⟨W2.heap.size, 3, none⟩ = some (.int .i64 20) := cell_at (o := 3) (heap_alloc_new W2 _)
  generalize hW3 : W2.alloc (.cells #[.int .i64 8, .int .i64 16, .int .i64 14, .int .i64 20, .int .i64 10, .int .i64 18] 35) = W3 at *
  have HG : Hid (Fr no w1 W2 ∧ Fr no W2 W3) := ⟨G1, G3⟩
  have PA := push_any W3 a
  clear P1 G1 G3
  go_wp2_with fail
  refine PA.mono ?_
  rintro e w4 ⟨rfl, f4⟩
  have PB := push_any w4 b
  clear PA
  go_wp2_with fail
  refine PB.mono ?_
  rintro e w5 ⟨rfl, f5⟩
  have L5 := lit_ins w5 [psh a, psh b, (20, 0), (46, 0), (33, 0)] #[.int .i64 (psh a).1, .int .i64 (psh a).2, .int .i64 (psh b).1, .int .i64 (psh b).2, .int .i64 20, .int .i64 0, .int .i64 46, .int .i64 0, .int .i64 33, .int .i64 0] rfl (show 5 ≤ 1000 by decide)
  have G6 : Fr no w5 (w5.alloc (.cells #[.int .i64 (psh a).1, .int .i64 (psh a).2, .int .i64 (psh b).1, .int .i64 (psh b).2, .int .i64 20, .int .i64 0, .int .i64 46, .int .i64 0, .int .i64 33, .int .i64 0] 26)) := (Fr.refl no w5).alloc _ _
  generalize hW6 : w5.alloc (.cells #[.int .i64 (psh a).1, .int .i64 (psh a).2, .int .i64 (psh b).1, .int .i64 (psh b).2, .int .i64 20, .int .i64 0, .int .i64 46, .int .i64 0, .int .i64 33, .int .i64 0] 26) = W6 at *
  have F26 : Fr no W2 W6 := ((HG.out.2.new f4 (fun _ _ f => f)).new f5 (fun _ _ f => f)).new G6 (fun _ _ f => f)
  have F6 : Fr no w W6 := (HF1.out.new HG.out.1 (fun _ _ f => f)).new F26 (fun _ _ f => f)
  have AC := accepted_any W6 (HK.out W6 F6).1 (HK.out W6 F6).2 _ _ _ _ _ _ _ pool2 L5 (SlG.kept HP.out F26) 20 res HAK.out
  rw [HRS.out] at AC
  have l5 : ([psh a, psh b, (20, 0), (46, 0), (33, 0)] : List (Int × Int)).length = 5 := rfl
  rw [l5] at AC
  have HF6 : Hid _ := F6
  clear PB L5 G6 F26 F6 f4 f5 l5 E3 hW3
  go_wp2_with fail
  refine AC.mono ?_
  rintro e w7 ⟨rfl, f7⟩
  clear AC
  cases a <;> cases b <;> (go_wp2_with fail; go_ret; exact ⟨by first | rfl | simp, HF6.out.new f7 (fun _ _ f => f)⟩)

set_option maxRecDepth 100000 in
set_option maxHeartbeats 4000000 in
theorem mixes_4 (w : World) (T : Tb w) (R : Tr w) (a b : Bool) (op : Int) (hi : op.tmod 6 = 4) :
    Calls Tryz.prog 4 #[.bool a, .bool b, .int .u8 op] w fun e w' => e = .returned (.bool true) ∧ Fr no w w' := by
  obtain ⟨res, AK, hres⟩ := ask_mix a b 4
  have KN := known_any w T R
  have HK : Hid (∀ w', Fr no w w' → Tb w' ∧ Tr w') := fun w' hf => ⟨T.kept hf, Tr.kept R hf⟩
  have HAK : Hid (Asked 3 3 [top, top] [psh a, psh b, (10, 0), (46, 0), (33, 0)] pool2 20 res) := AK
  have HRS : Hid (decide (res.1 = 0) = ((a == false) && (b == false))) := hres
  clear T R AK hres
  go_enter Tryz.func4, Tryz.ntmps4
  go_wp2_with fail
  refine KN.mono ?_
  rintro e w1 ⟨rfl, f1⟩
  have HF1 : Hid _ := f1
  clear KN f1
  have P1 := pool2_lit w1
  have G1 : Fr no w1 (w1.alloc (.cells #[.int .i64 1, .int .i64 0, .complex .f64 0 0, .string e0, .string e0, .int .i64 2, .int .i64 0, .complex .f64 0 0, .string e0, .string e0] 32)) := (Fr.refl no w1).alloc _ _
  have hW : ∀ W, w1.alloc (.cells #[.int .i64 1, .int .i64 0, .complex .f64 0 0, .string e0, .string e0, .int .i64 2, .int .i64 0, .complex .f64 0 0, .string e0, .string e0] 32) = W → w1.alloc (.cells #[.int .i64 1, .int .i64 0, .complex .f64 0 0, .string ⟨#[]⟩, .string ⟨#[]⟩, .int .i64 2, .int .i64 0, .complex .f64 0 0, .string ⟨#[]⟩, .string ⟨#[]⟩] 32) = W := fun W h => h
  generalize hW2 : w1.alloc (.cells #[.int .i64 1, .int .i64 0, .complex .f64 0 0, .string e0, .string e0, .int .i64 2, .int .i64 0, .complex .f64 0 0, .string e0, .string e0] 32) = W2 at P1 G1
  have hW' := hW W2 hW2
  clear hW hW2
  have HP : Hid (SlG elCs W2 (.slice (some ⟨w1.heap.size, 0, none⟩) 2 2) pool2) := P1
  have G3 : Fr no W2 (W2.alloc (.cells #[.int .i64 8, .int .i64 16, .int .i64 14, .int .i64 20, .int .i64 10, .int .i64 18] 35)) := (Fr.refl no W2).alloc _ _
  have E3 : (W2.alloc (.cells #[.int .i64 8, .int .i64 16, .int .i64 14, .int .i64 20, .int .i64 10, .int .i64 18] 35)).cell? ⟨W2.heap.size, 4, none⟩ = some (.int .i64 10) := cell_at (o := 4) (heap_alloc_new W2 _)
  generalize hW3 : W2.alloc (.cells #[.int .i64 8, .int .i64 16, .int .i64 14, .int .i64 20, .int .i64 10, .int .i64 18] 35) = W3 at *
  have HG : Hid (Fr no w1 W2 ∧ Fr no W2 W3) := ⟨G1, G3⟩
  have PA := push_any W3 a
  clear P1 G1 G3
  go_wp2_with fail
  refine PA.mono ?_
  rintro e w4 ⟨rfl, f4⟩
  have PB := push_any w4 b
  clear PA
  go_wp2_with fail
  refine PB.mono ?_
  rintro e w5 ⟨rfl, f5⟩
  have L5 := lit_ins w5 [psh a, psh b, (10, 0), (46, 0), (33, 0)] #[.int .i64 (psh a).1, .int .i64 (psh a).2, .int .i64 (psh b).1, .int .i64 (psh b).2, .int .i64 10, .int .i64 0, .int .i64 46, .int .i64 0, .int .i64 33, .int .i64 0] rfl (show 5 ≤ 1000 by decide)
  have G6 : Fr no w5 (w5.alloc (.cells #[.int .i64 (psh a).1, .int .i64 (psh a).2, .int .i64 (psh b).1, .int .i64 (psh b).2, .int .i64 10, .int .i64 0, .int .i64 46, .int .i64 0, .int .i64 33, .int .i64 0] 26)) := (Fr.refl no w5).alloc _ _
  generalize hW6 : w5.alloc (.cells #[.int .i64 (psh a).1, .int .i64 (psh a).2, .int .i64 (psh b).1, .int .i64 (psh b).2, .int .i64 10, .int .i64 0, .int .i64 46, .int .i64 0, .int .i64 33, .int .i64 0] 26) = W6 at *
  have F26 : Fr no W2 W6 := ((HG.out.2.new f4 (fun _ _ f => f)).new f5 (fun _ _ f => f)).new G6 (fun _ _ f => f)
  have F6 : Fr no w W6 := (HF1.out.new HG.out.1 (fun _ _ f => f)).new F26 (fun _ _ f => f)
  have AC := accepted_any W6 (HK.out W6 F6).1 (HK.out W6 F6).2 _ _ _ _ _ _ _ pool2 L5 (SlG.kept HP.out F26) 20 res HAK.out
  rw [HRS.out] at AC
  have l5 : ([psh a, psh b, (10, 0), (46, 0), (33, 0)] : List (Int × Int)).length = 5 := rfl
  rw [l5] at AC
  have HF6 : Hid _ := F6
  clear PB L5 G6 F26 F6 f4 f5 l5 E3 hW3
  go_wp2_with fail
  refine AC.mono ?_
  rintro e w7 ⟨rfl, f7⟩
  clear AC
  cases a <;> cases b <;> (go_wp2_with fail; go_ret; exact ⟨by first | rfl | simp, HF6.out.new f7 (fun _ _ f => f)⟩)

set_option maxRecDepth 100000 in
set_option maxHeartbeats 4000000 in
theorem mixes_5 (w : World) (T : Tb w) (R : Tr w) (a b : Bool) (op : Int) (hi : op.tmod 6 = 5) :
    Calls Tryz.prog 4 #[.bool a, .bool b, .int .u8 op] w fun e w' => e = .returned (.bool true) ∧ Fr no w w' := by
  obtain ⟨res, AK, hres⟩ := ask_mix a b 5
  have KN := known_any w T R
  have HK : Hid (∀ w', Fr no w w' → Tb w' ∧ Tr w') := fun w' hf => ⟨T.kept hf, Tr.kept R hf⟩
  have HAK : Hid (Asked 3 3 [top, top] [psh a, psh b, (18, 0), (47, 0), (33, 0)] pool2 20 res) := AK
  have HRS : Hid (decide (res.1 = 0) = ((a == true) && (b == true))) := hres
  clear T R AK hres
  go_enter Tryz.func4, Tryz.ntmps4
  go_wp2_with fail
  refine KN.mono ?_
  rintro e w1 ⟨rfl, f1⟩
  have HF1 : Hid _ := f1
  clear KN f1
  have P1 := pool2_lit w1
  have G1 : Fr no w1 (w1.alloc (.cells #[.int .i64 1, .int .i64 0, .complex .f64 0 0, .string e0, .string e0, .int .i64 2, .int .i64 0, .complex .f64 0 0, .string e0, .string e0] 32)) := (Fr.refl no w1).alloc _ _
  have hW : ∀ W, w1.alloc (.cells #[.int .i64 1, .int .i64 0, .complex .f64 0 0, .string e0, .string e0, .int .i64 2, .int .i64 0, .complex .f64 0 0, .string e0, .string e0] 32) = W → w1.alloc (.cells #[.int .i64 1, .int .i64 0, .complex .f64 0 0, .string ⟨#[]⟩, .string ⟨#[]⟩, .int .i64 2, .int .i64 0, .complex .f64 0 0, .string ⟨#[]⟩, .string ⟨#[]⟩] 32) = W := fun W h => h
  generalize hW2 : w1.alloc (.cells #[.int .i64 1, .int .i64 0, .complex .f64 0 0, .string e0, .string e0, .int .i64 2, .int .i64 0, .complex .f64 0 0, .string e0, .string e0] 32) = W2 at P1 G1
  have hW' := hW W2 hW2
  clear hW hW2
  have HP : Hid (SlG elCs W2 (.slice (some ⟨w1.heap.size, 0, none⟩) 2 2) pool2) := P1
  have G3 : Fr no W2 (W2.alloc (.cells #[.int .i64 8, .int .i64 16, .int .i64 14, .int .i64 20, .int .i64 10, .int .i64 18] 35)) := (Fr.refl no W2).alloc _ _
  have E3 : (W2.alloc (.cells #[.int .i64 8, .int .i64 16, .int .i64 14, .int .i64 20, .int .i64 10, .int .i64 18] 35)).cell? ⟨W2.heap.size, 5, none⟩ = some (.int .i64 18) := cell_at (o := 5) (heap_alloc_new W2 _)
  generalize hW3 : W2.alloc (.cells #[.int .i64 8, .int .i64 16, .int .i64 14, .int .i64 20, .int .i64 10, .int .i64 18] 35) = W3 at *
  have HG : Hid (Fr no w1 W2 ∧ Fr no W2 W3) := ⟨G1, G3⟩
  have PA := push_any W3 a
  clear P1 G1 G3
  go_wp2_with fail
  refine PA.mono ?_
  rintro e w4 ⟨rfl, f4⟩
  have PB := push_any w4 b
  clear PA
  go_wp2_with fail
  refine PB.mono ?_
  rintro e w5 ⟨rfl, f5⟩
  have L5 := lit_ins w5 [psh a, psh b, (18, 0), (47, 0), (33, 0)] #[.int .i64 (psh a).1, .int .i64 (psh a).2, .int .i64 (psh b).1, .int .i64 (psh b).2, .int .i64 18, .int .i64 0, .int .i64 47, .int .i64 0, .int .i64 33, .int .i64 0] rfl (show 5 ≤ 1000 by decide)
  have G6 : Fr no w5 (w5.alloc (.cells #[.int .i64 (psh a).1, .int .i64 (psh a).2, .int .i64 (psh b).1, .int .i64 (psh b).2, .int .i64 18, .int .i64 0, .int .i64 47, .int .i64 0, .int .i64 33, .int .i64 0] 26)) := (Fr.refl no w5).alloc _ _
  generalize hW6 : w5.alloc (.cells #[.int .i64 (psh a).1, .int .i64 (psh a).2, .int .i64 (psh b).1, .int .i64 (psh b).2, .int .i64 18, .int .i64 0, .int .i64 47, .int .i64 0, .int .i64 33, .int .i64 0] 26) = W6 at *
  have F26 : Fr no W2 W6 := ((HG.out.2.new f4 (fun _ _ f => f)).new f5 (fun _ _ f => f)).new G6 (fun _ _ f => f)
  have F6 : Fr no w W6 := (HF1.out.new HG.out.1 (fun _ _ f => f)).new F26 (fun _ _ f => f)
  have AC := accepted_any W6 (HK.out W6 F6).1 (HK.out W6 F6).2 _ _ _ _ _ _ _ pool2 L5 (SlG.kept HP.out F26) 20 res HAK.out
  rw [HRS.out] at AC
  have l5 : ([psh a, psh b, (18, 0), (47, 0), (33, 0)] : List (Int × Int)).length = 5 := rfl
  rw [l5] at AC
  have HF6 : Hid _ := F6
  clear PB L5 G6 F26 F6 f4 f5 l5 E3 hW3
  go_wp2_with fail
  refine AC.mono ?_
  rintro e w7 ⟨rfl, f7⟩
  clear AC
  cases a <;> cases b <;> (go_wp2_with fail; go_ret; exact ⟨by first | rfl | simp, HF6.out.new f7 (fun _ _ f => f)⟩)

theorem mixes_any (w : World) (T : Tb w) (R : Tr w) (a b : Bool) (op : Int) (h0 : 0 ≤ op) (_h1 : op ≤ 255) :
    Calls Tryz.prog 4 #[.bool a, .bool b, .int .u8 op] w fun e w' => e = .returned (.bool true) ∧ Fr no w w' := by
  have h : op.tmod 6 = 0 ∨ op.tmod 6 = 1 ∨ op.tmod 6 = 2 ∨ op.tmod 6 = 3 ∨ op.tmod 6 = 4 ∨ op.tmod 6 = 5 := by rw [Int.tmod_eq_emod_of_nonneg h0]; omega
  rcases h with h | h | h | h | h | h
  · exact mixes_0 w T R a b op h
  · exact mixes_1 w T R a b op h
  · exact mixes_2 w T R a b op h
  · exact mixes_3 w T R a b op h
  · exact mixes_4 w T R a b op h
  · exact mixes_5 w T R a b op h
end Go.Proofs.YtpfkigoffllieaaGreatDoor
