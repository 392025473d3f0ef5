/- LocksStored, LocksWays: the walks. -/
import Derived.Test.YtalgjpmaafooeaaGreatDoorL17K
namespace Go.Proofs.YtalgjpmaafooeaaGreatDoor
open Go.ChangeShapes Go.WideShapes Go.ChangeAt Go.RowKit
open H (ky Owns MapOf ix NewV)
theorem mod8 (a : Int) (ha : 0 ≤ a) : ∃ x : Fin 8, a.tmod 8 = (x.val : Int) := by
 refine ⟨⟨(a % 8).toNat, by omega⟩, ?_⟩
 rw [Int.tmod_eq_emod_of_nonneg ha]
 show a % 8 = (((a % 8).toNat : Nat) : Int)
 omega
theorem stC_b (x y : Fin 8) : ∀ z ∈ stC x y, 0 ≤ z.2 ∧ z.2 ≤ 1000 := by
 have := x.isLt
 have := y.isLt
 intro z hz
 simp only [stC, List.mem_cons, List.not_mem_nil, or_false] at hz
 rcases hz with rfl | rfl | rfl | rfl <;> constructor <;> simp only <;> omega
set_option maxRecDepth 100000 in
set_option maxHeartbeats 4000000 in
theorem stored_any (w : World) (T : Tb w) (R : Tr w) (a : Int) (ha : 0 ≤ a) (_ha' : a ≤ 255) (b : Int) (hb : 0 ≤ b) (_hb' : b ≤ 255) :
 Calls Tryz.prog 4 #[.int .u8 a, .int .u8 b] w fun e w' => e = .returned (.bool true) ∧ Fr no w w' := by
 obtain ⟨x, hx⟩ := mod8 a ha
 obtain ⟨y, hy⟩ := mod8 b hb
 obtain ⟨res, lr, AK, LK, hd⟩ := ask_stored x y
 have KN := lKnown_any w T R
 have HK : Hid (∀ w', Fr no w w' → Tb w' ∧ Tr w') := fun w' hf => ⟨T.kept hf, Tr.kept R hf⟩
 have HAK : Hid (Asked 8 2 tops (allCd (stC x y)) pool1 100 res) := AK
 have HLK : Hid (fitsP (allCd (stC x y)) 100 (comeP 0 [] (wk0 (allCd (stC x y)).length)).2 = some lr) := LK
 have HD : Hid (decide (lockE res.1 lr.1 = 0) = decide (x ≠ y)) := hd
 have x8 := x.isLt
 have y8 := y.isLt
 clear T R AK LK hd
 go_enter Tryz.func4, Tryz.ntmps4
 go_wp2_with fail
 refine KN.mono ?_
 rintro e w1 ⟨rfl, f1⟩
 have LI := lit_ins w1 (stC x y) #[.int .i64 38, .int .i64 (x.val : Int), .int .i64 3, .int .i64 0, .int .i64 5, .int .i64 (y.val : Int), .int .i64 39, .int .i64 (x.val : Int)] rfl (by simp [stC])
 have F2 : Fr no w1 (w1.alloc (.cells #[.int .i64 38, .int .i64 (x.val : Int), .int .i64 3, .int .i64 0, .int .i64 5, .int .i64 (y.val : Int), .int .i64 39, .int .i64 (x.val : Int)] 27)) := (Fr.refl no w1).alloc _ _
 generalize hW2 : w1.alloc (.cells #[.int .i64 38, .int .i64 (x.val : Int), .int .i64 3, .int .i64 0, .int .i64 5, .int .i64 (y.val : Int), .int .i64 39, .int .i64 (x.val : Int)] 27) = W2 at *
 have G2 : Fr no w W2 := f1.new F2 (fun _ _ f => f)
 have GD := good_any W2 (HK.out W2 G2).1 (HK.out W2 G2).2 _ _ _ (stC x y) LI (by simp [stC]) (stC_b x y) 100 100 res lr HAK.out HLK.out
 rw [HD.out, show (stC x y).length = 4 from rfl] at GD
 have HG2 : Hid (Fr no w W2) := G2
 clear KN LI F2 G2 HK HAK HLK
 by_cases e : x = y
 · subst e
   rw [decide_eq_false (fun h => h rfl)] at GD
   go_wp2_with fail
   refine GD.mono ?_
   rintro e w3 ⟨rfl, f3⟩
   go_wp2_with fail
   go_ret
   exact ⟨by simp, HG2.out.new f3 (fun _ _ f => f)⟩
 · have hne : ¬ (x.val : Int) = (y.val : Int) := fun h => e (Fin.ext (by omega))
   rw [decide_eq_true e] at GD
   go_wp2_with fail
   refine GD.mono ?_
   rintro e w3 ⟨rfl, f3⟩
   go_wp2_with fail
   go_ret
   exact ⟨by simp [hne], HG2.out.new f3 (fun _ _ f => f)⟩
theorem wyC_b (p q : Bool) (x y : Fin 8) : ∀ z ∈ wyC p q x y, 0 ≤ z.2 ∧ z.2 ≤ 1000 := by
 have := x.isLt
 have := y.isLt
 intro z hz
 cases p <;> cases q <;> simp [wyC] at hz <;> (rcases hz with rfl | rfl | rfl | rfl | rfl | rfl) <;> constructor <;> simp only <;> omega
set_option maxRecDepth 100000 in
set_option maxHeartbeats 4000000 in
theorem ways_ff_any (w : World) (T : Tb w) (R : Tr w) (a : Int) (ha : 0 ≤ a) (b : Int) (hb : 0 ≤ b) :
 Calls Tryz.prog 5 #[.bool false, .bool false, .int .u8 a, .int .u8 b] w fun e w' => e = .returned (.bool true) ∧ Fr no w w' := by
 obtain ⟨x, hx⟩ := mod8 a ha
 obtain ⟨y, hy⟩ := mod8 b hb
 obtain ⟨res, lr, AK, LK, hd⟩ := ask_ways false false x y
 have KN := lKnown_any w T R
 have HK : Hid (∀ w', Fr no w w' → Tb w' ∧ Tr w') := fun w' hf => ⟨T.kept hf, Tr.kept R hf⟩
 have HAK : Hid (Asked 8 2 tops (allCd (wyC false false x y)) pool1 100 res) := AK
 have HLK : Hid (fitsP (allCd (wyC false false x y)) 100 (comeP 0 [] (wk0 (allCd (wyC false false x y)).length)).2 = some lr) := LK
 have HD : Hid (decide (lockE res.1 lr.1 = 0) = ((false == false) && (!false || decide (x = y)))) := hd
 have x8 := x.isLt
 have y8 := y.isLt
 clear T R AK LK hd
 go_enter Tryz.func5, Tryz.ntmps5
 go_wp2_with fail
 refine KN.mono ?_
 rintro e w1 ⟨rfl, f1⟩
 have Fb : Fr no w1 ((w1.alloc (.cells #[.int .i64 0, .int .i64 0] 27)).alloc (.cells #[.int .i64 0, .int .i64 0] 27)) := ((Fr.refl no w1).alloc _ _).alloc _ _
 have sb : ((w1.alloc (.cells #[.int .i64 0, .int .i64 0] 27)).alloc (.cells #[.int .i64 0, .int .i64 0] 27)).heap.size = w1.heap.size + 1 + 1 := by rw [size_alloc, size_alloc]
 have OL : OwnG elIn (((w1.alloc (.cells #[.int .i64 0, .int .i64 0] 27)).alloc (.cells #[.int .i64 0, .int .i64 0] 27)).alloc (.cells #[.int .i64 1, .int .i64 0, .int .i64 23, .int .i64 4, .int .i64 0, .int .i64 0, .int .i64 22, .int .i64 5, .int .i64 0, .int .i64 0] 27)) (.slice (some ⟨w1.heap.size + 1 + 1, 0, none⟩) 5 5) [(1, 0), (23, 4), (0, 0), (22, 5), (0, 0)] := by have := own_lit okIn ((w1.alloc (.cells #[.int .i64 0, .int .i64 0] 27)).alloc (.cells #[.int .i64 0, .int .i64 0] 27)) [(1, 0), (23, 4), (0, 0), (22, 5), (0, 0)] #[.int .i64 1, .int .i64 0, .int .i64 23, .int .i64 4, .int .i64 0, .int .i64 0, .int .i64 22, .int .i64 5, .int .i64 0, .int .i64 0] rfl (show 5 ≤ maxLen by decide); rw [sb] at this; exact this
 have F2 : Fr no w1 (((w1.alloc (.cells #[.int .i64 0, .int .i64 0] 27)).alloc (.cells #[.int .i64 0, .int .i64 0] 27)).alloc (.cells #[.int .i64 1, .int .i64 0, .int .i64 23, .int .i64 4, .int .i64 0, .int .i64 0, .int .i64 22, .int .i64 5, .int .i64 0, .int .i64 0] 27)) := Fb.alloc _ _
 have NW : NewV w1 (.slice (some ⟨w1.heap.size + 1 + 1, 0, none⟩) 5 5) := fun k hk => by simp [Value.ownBlock] at hk; omega
 generalize hW2 : ((w1.alloc (.cells #[.int .i64 0, .int .i64 0] 27)).alloc (.cells #[.int .i64 0, .int .i64 0] 27)).alloc (.cells #[.int .i64 1, .int .i64 0, .int .i64 23, .int .i64 4, .int .i64 0, .int .i64 0, .int .i64 22, .int .i64 5, .int .i64 0, .int .i64 0] 27) = w3 at *
 have G3 : Fr no w w3 := f1.new F2 (fun _ _ f => f)
 have GD := good_any w3 (HK.out w3 G3).1 (HK.out w3 G3).2 _ _ _ (wyC false false x y) (OL.sl okIn) (by simp [wyC]) (wyC_b _ _ x y) 100 100 res lr HAK.out HLK.out
 have HG3 : Hid (Fr no w w3) := G3
 clear KN OL F2 NW Fb f1 G3
 rw [HD.out] at GD
 go_wp2_with fail
 refine GD.mono ?_
 rintro e w4 ⟨rfl, f4⟩
 go_wp2_with fail
 go_ret
 exact ⟨by simp, HG3.out.new f4 (fun _ _ f => f)⟩
set_option maxRecDepth 100000 in
set_option maxHeartbeats 4000000 in
theorem ways_ft_any (w : World) (T : Tb w) (R : Tr w) (a : Int) (ha : 0 ≤ a) (b : Int) (hb : 0 ≤ b) :
 Calls Tryz.prog 5 #[.bool false, .bool true, .int .u8 a, .int .u8 b] w fun e w' => e = .returned (.bool true) ∧ Fr no w w' := by
 obtain ⟨x, hx⟩ := mod8 a ha
 obtain ⟨y, hy⟩ := mod8 b hb
 obtain ⟨res, lr, AK, LK, hd⟩ := ask_ways false true x y
 have KN := lKnown_any w T R
 have HK : Hid (∀ w', Fr no w w' → Tb w' ∧ Tr w') := fun w' hf => ⟨T.kept hf, Tr.kept R hf⟩
 have HAK : Hid (Asked 8 2 tops (allCd (wyC false true x y)) pool1 100 res) := AK
 have HLK : Hid (fitsP (allCd (wyC false true x y)) 100 (comeP 0 [] (wk0 (allCd (wyC false true x y)).length)).2 = some lr) := LK
 have HD : Hid (decide (lockE res.1 lr.1 = 0) = ((false == true) && (!false || decide (x = y)))) := hd
 have x8 := x.isLt
 have y8 := y.isLt
 clear T R AK LK hd
 go_enter Tryz.func5, Tryz.ntmps5
 go_wp2_with fail
 refine KN.mono ?_
 rintro e w1 ⟨rfl, f1⟩
 have Fb : Fr no w1 ((w1.alloc (.cells #[.int .i64 0, .int .i64 0] 27)).alloc (.cells #[.int .i64 38, .int .i64 (y.val : Int)] 27)) := ((Fr.refl no w1).alloc _ _).alloc _ _
 have sb : ((w1.alloc (.cells #[.int .i64 0, .int .i64 0] 27)).alloc (.cells #[.int .i64 38, .int .i64 (y.val : Int)] 27)).heap.size = w1.heap.size + 1 + 1 := by rw [size_alloc, size_alloc]
 have OL : OwnG elIn (((w1.alloc (.cells #[.int .i64 0, .int .i64 0] 27)).alloc (.cells #[.int .i64 38, .int .i64 (y.val : Int)] 27)).alloc (.cells #[.int .i64 1, .int .i64 0, .int .i64 23, .int .i64 4, .int .i64 0, .int .i64 0, .int .i64 22, .int .i64 5, .int .i64 38, .int .i64 (y.val : Int)] 27)) (.slice (some ⟨w1.heap.size + 1 + 1, 0, none⟩) 5 5) [(1, 0), (23, 4), (0, 0), (22, 5), (38, (y.val : Int))] := by have := own_lit okIn ((w1.alloc (.cells #[.int .i64 0, .int .i64 0] 27)).alloc (.cells #[.int .i64 38, .int .i64 (y.val : Int)] 27)) [(1, 0), (23, 4), (0, 0), (22, 5), (38, (y.val : Int))] #[.int .i64 1, .int .i64 0, .int .i64 23, .int .i64 4, .int .i64 0, .int .i64 0, .int .i64 22, .int .i64 5, .int .i64 38, .int .i64 (y.val : Int)] rfl (show 5 ≤ maxLen by decide); rw [sb] at this; exact this
 have F2 : Fr no w1 (((w1.alloc (.cells #[.int .i64 0, .int .i64 0] 27)).alloc (.cells #[.int .i64 38, .int .i64 (y.val : Int)] 27)).alloc (.cells #[.int .i64 1, .int .i64 0, .int .i64 23, .int .i64 4, .int .i64 0, .int .i64 0, .int .i64 22, .int .i64 5, .int .i64 38, .int .i64 (y.val : Int)] 27)) := Fb.alloc _ _
 have NW : NewV w1 (.slice (some ⟨w1.heap.size + 1 + 1, 0, none⟩) 5 5) := fun k hk => by simp [Value.ownBlock] at hk; omega
 generalize hW2 : ((w1.alloc (.cells #[.int .i64 0, .int .i64 0] 27)).alloc (.cells #[.int .i64 38, .int .i64 (y.val : Int)] 27)).alloc (.cells #[.int .i64 1, .int .i64 0, .int .i64 23, .int .i64 4, .int .i64 0, .int .i64 0, .int .i64 22, .int .i64 5, .int .i64 38, .int .i64 (y.val : Int)] 27) = w3 at *
 have G3 : Fr no w w3 := f1.new F2 (fun _ _ f => f)
 have GD := good_any w3 (HK.out w3 G3).1 (HK.out w3 G3).2 _ _ _ (wyC false true x y) (OL.sl okIn) (by simp [wyC]) (wyC_b _ _ x y) 100 100 res lr HAK.out HLK.out
 have HG3 : Hid (Fr no w w3) := G3
 clear KN OL F2 NW Fb f1 G3
 rw [HD.out] at GD
 go_wp2_with fail
 refine GD.mono ?_
 rintro e w4 ⟨rfl, f4⟩
 go_wp2_with fail
 go_ret
 exact ⟨by simp, HG3.out.new f4 (fun _ _ f => f)⟩
set_option maxRecDepth 100000 in
set_option maxHeartbeats 4000000 in
theorem ways_tf_any (w : World) (T : Tb w) (R : Tr w) (a : Int) (ha : 0 ≤ a) (b : Int) (hb : 0 ≤ b) :
 Calls Tryz.prog 5 #[.bool true, .bool false, .int .u8 a, .int .u8 b] w fun e w' => e = .returned (.bool true) ∧ Fr no w w' := by
 obtain ⟨x, hx⟩ := mod8 a ha
 obtain ⟨y, hy⟩ := mod8 b hb
 obtain ⟨res, lr, AK, LK, hd⟩ := ask_ways true false x y
 have KN := lKnown_any w T R
 have HK : Hid (∀ w', Fr no w w' → Tb w' ∧ Tr w') := fun w' hf => ⟨T.kept hf, Tr.kept R hf⟩
 have HAK : Hid (Asked 8 2 tops (allCd (wyC true false x y)) pool1 100 res) := AK
 have HLK : Hid (fitsP (allCd (wyC true false x y)) 100 (comeP 0 [] (wk0 (allCd (wyC true false x y)).length)).2 = some lr) := LK
 have HD : Hid (decide (lockE res.1 lr.1 = 0) = ((true == false) && (!true || decide (x = y)))) := hd
 have x8 := x.isLt
 have y8 := y.isLt
 clear T R AK LK hd
 go_enter Tryz.func5, Tryz.ntmps5
 go_wp2_with fail
 refine KN.mono ?_
 rintro e w1 ⟨rfl, f1⟩
 have Fb : Fr no w1 ((w1.alloc (.cells #[.int .i64 38, .int .i64 (x.val : Int)] 27)).alloc (.cells #[.int .i64 0, .int .i64 0] 27)) := ((Fr.refl no w1).alloc _ _).alloc _ _
 have sb : ((w1.alloc (.cells #[.int .i64 38, .int .i64 (x.val : Int)] 27)).alloc (.cells #[.int .i64 0, .int .i64 0] 27)).heap.size = w1.heap.size + 1 + 1 := by rw [size_alloc, size_alloc]
 have OL : OwnG elIn (((w1.alloc (.cells #[.int .i64 38, .int .i64 (x.val : Int)] 27)).alloc (.cells #[.int .i64 0, .int .i64 0] 27)).alloc (.cells #[.int .i64 1, .int .i64 0, .int .i64 23, .int .i64 4, .int .i64 38, .int .i64 (x.val : Int), .int .i64 22, .int .i64 5, .int .i64 0, .int .i64 0] 27)) (.slice (some ⟨w1.heap.size + 1 + 1, 0, none⟩) 5 5) [(1, 0), (23, 4), (38, (x.val : Int)), (22, 5), (0, 0)] := by have := own_lit okIn ((w1.alloc (.cells #[.int .i64 38, .int .i64 (x.val : Int)] 27)).alloc (.cells #[.int .i64 0, .int .i64 0] 27)) [(1, 0), (23, 4), (38, (x.val : Int)), (22, 5), (0, 0)] #[.int .i64 1, .int .i64 0, .int .i64 23, .int .i64 4, .int .i64 38, .int .i64 (x.val : Int), .int .i64 22, .int .i64 5, .int .i64 0, .int .i64 0] rfl (show 5 ≤ maxLen by decide); rw [sb] at this; exact this
 have F2 : Fr no w1 (((w1.alloc (.cells #[.int .i64 38, .int .i64 (x.val : Int)] 27)).alloc (.cells #[.int .i64 0, .int .i64 0] 27)).alloc (.cells #[.int .i64 1, .int .i64 0, .int .i64 23, .int .i64 4, .int .i64 38, .int .i64 (x.val : Int), .int .i64 22, .int .i64 5, .int .i64 0, .int .i64 0] 27)) := Fb.alloc _ _
 have NW : NewV w1 (.slice (some ⟨w1.heap.size + 1 + 1, 0, none⟩) 5 5) := fun k hk => by simp [Value.ownBlock] at hk; omega
 generalize hW2 : ((w1.alloc (.cells #[.int .i64 38, .int .i64 (x.val : Int)] 27)).alloc (.cells #[.int .i64 0, .int .i64 0] 27)).alloc (.cells #[.int .i64 1, .int .i64 0, .int .i64 23, .int .i64 4, .int .i64 38, .int .i64 (x.val : Int), .int .i64 22, .int .i64 5, .int .i64 0, .int .i64 0] 27) = W2 at *
 have HRW : Hid (Row w1 W2 (.slice (some ⟨w1.heap.size + 1 + 1, 0, none⟩) 5 5) [(1, 0), (23, 4), (38, (x.val : Int)), (22, 5), (0, 0)]) := ⟨OL, NW, F2⟩
 have HF1 : Hid (Fr no w w1) := f1
 clear KN OL F2 NW Fb f1
 go_wp2_with (first | (at_builtin; refine wpList_apdG okIn _ rfl rfl _ _ rfl (.slice (some ⟨w1.heap.size + 1 + 1, 0, none⟩) 5 5) [(1, 0), (23, 4), (38, (x.val : Int)), (22, 5), (0, 0)] rfl (HRW.out.1.keep ((Fr.refl no W2).alloc _ _)) _ rfl [(39, (x.val : Int))] (srcG_one okIn W2 (39, (x.val : Int))) (by simp) (by simp) ?_; intro v' w3 o3 s3; obtain ⟨oo3, cc3, hv3⟩ := o3.form; have HO3 : Hid (Row w1 w3 v' (wyC true false x y)) := HRW.out.step ((Fr.refl no W2).alloc _ _) o3 s3; clear o3 s3; change v' = .slice oo3 6 cc3 at hv3; subst hv3) | fail)
 have G3 : Fr no w w3 := HF1.out.new HO3.out.2.2 (fun _ _ f => f)
 have GD := good_any w3 (HK.out w3 G3).1 (HK.out w3 G3).2 _ _ _ (wyC true false x y) (HO3.out.1.sl okIn) (by simp [wyC]) (wyC_b _ _ x y) 100 100 res lr HAK.out HLK.out
 have HG3 : Hid (Fr no w w3) := G3
 clear G3
 rw [HD.out] at GD
 refine GD.mono ?_
 rintro e w4 ⟨rfl, f4⟩
 go_wp2_with fail
 go_ret
 exact ⟨by simp, HG3.out.new f4 (fun _ _ f => f)⟩
set_option maxRecDepth 100000 in
set_option maxHeartbeats 4000000 in
theorem ways_tt_any (w : World) (T : Tb w) (R : Tr w) (a : Int) (ha : 0 ≤ a) (b : Int) (hb : 0 ≤ b) :
 Calls Tryz.prog 5 #[.bool true, .bool true, .int .u8 a, .int .u8 b] w fun e w' => e = .returned (.bool true) ∧ Fr no w w' := by
 obtain ⟨x, hx⟩ := mod8 a ha
 obtain ⟨y, hy⟩ := mod8 b hb
 obtain ⟨res, lr, AK, LK, hd⟩ := ask_ways true true x y
 have KN := lKnown_any w T R
 have HK : Hid (∀ w', Fr no w w' → Tb w' ∧ Tr w') := fun w' hf => ⟨T.kept hf, Tr.kept R hf⟩
 have HAK : Hid (Asked 8 2 tops (allCd (wyC true true x y)) pool1 100 res) := AK
 have HLK : Hid (fitsP (allCd (wyC true true x y)) 100 (comeP 0 [] (wk0 (allCd (wyC true true x y)).length)).2 = some lr) := LK
 have HD : Hid (decide (lockE res.1 lr.1 = 0) = ((true == true) && (!true || decide (x = y)))) := hd
 have x8 := x.isLt
 have y8 := y.isLt
 clear T R AK LK hd
 go_enter Tryz.func5, Tryz.ntmps5
 go_wp2_with fail
 refine KN.mono ?_
 rintro e w1 ⟨rfl, f1⟩
 have Fb : Fr no w1 ((w1.alloc (.cells #[.int .i64 38, .int .i64 (x.val : Int)] 27)).alloc (.cells #[.int .i64 38, .int .i64 (y.val : Int)] 27)) := ((Fr.refl no w1).alloc _ _).alloc _ _
 have sb : ((w1.alloc (.cells #[.int .i64 38, .int .i64 (x.val : Int)] 27)).alloc (.cells #[.int .i64 38, .int .i64 (y.val : Int)] 27)).heap.size = w1.heap.size + 1 + 1 := by rw [size_alloc, size_alloc]
 have OL : OwnG elIn (((w1.alloc (.cells #[.int .i64 38, .int .i64 (x.val : Int)] 27)).alloc (.cells #[.int .i64 38, .int .i64 (y.val : Int)] 27)).alloc (.cells #[.int .i64 1, .int .i64 0, .int .i64 23, .int .i64 4, .int .i64 38, .int .i64 (x.val : Int), .int .i64 22, .int .i64 5, .int .i64 38, .int .i64 (y.val : Int)] 27)) (.slice (some ⟨w1.heap.size + 1 + 1, 0, none⟩) 5 5) [(1, 0), (23, 4), (38, (x.val : Int)), (22, 5), (38, (y.val : Int))] := by have := own_lit okIn ((w1.alloc (.cells #[.int .i64 38, .int .i64 (x.val : Int)] 27)).alloc (.cells #[.int .i64 38, .int .i64 (y.val : Int)] 27)) [(1, 0), (23, 4), (38, (x.val : Int)), (22, 5), (38, (y.val : Int))] #[.int .i64 1, .int .i64 0, .int .i64 23, .int .i64 4, .int .i64 38, .int .i64 (x.val : Int), .int .i64 22, .int .i64 5, .int .i64 38, .int .i64 (y.val : Int)] rfl (show 5 ≤ maxLen by decide); rw [sb] at this; exact this
 have F2 : Fr no w1 (((w1.alloc (.cells #[.int .i64 38, .int .i64 (x.val : Int)] 27)).alloc (.cells #[.int .i64 38, .int .i64 (y.val : Int)] 27)).alloc (.cells #[.int .i64 1, .int .i64 0, .int .i64 23, .int .i64 4, .int .i64 38, .int .i64 (x.val : Int), .int .i64 22, .int .i64 5, .int .i64 38, .int .i64 (y.val : Int)] 27)) := Fb.alloc _ _
 have NW : NewV w1 (.slice (some ⟨w1.heap.size + 1 + 1, 0, none⟩) 5 5) := fun k hk => by simp [Value.ownBlock] at hk; omega
 generalize hW2 : ((w1.alloc (.cells #[.int .i64 38, .int .i64 (x.val : Int)] 27)).alloc (.cells #[.int .i64 38, .int .i64 (y.val : Int)] 27)).alloc (.cells #[.int .i64 1, .int .i64 0, .int .i64 23, .int .i64 4, .int .i64 38, .int .i64 (x.val : Int), .int .i64 22, .int .i64 5, .int .i64 38, .int .i64 (y.val : Int)] 27) = W2 at *
 have HRW : Hid (Row w1 W2 (.slice (some ⟨w1.heap.size + 1 + 1, 0, none⟩) 5 5) [(1, 0), (23, 4), (38, (x.val : Int)), (22, 5), (38, (y.val : Int))]) := ⟨OL, NW, F2⟩
 have HF1 : Hid (Fr no w w1) := f1
 clear KN OL F2 NW Fb f1
 go_wp2_with (first | (at_builtin; refine wpList_apdG okIn _ rfl rfl _ _ rfl (.slice (some ⟨w1.heap.size + 1 + 1, 0, none⟩) 5 5) [(1, 0), (23, 4), (38, (x.val : Int)), (22, 5), (38, (y.val : Int))] rfl (HRW.out.1.keep ((Fr.refl no W2).alloc _ _)) _ rfl [(39, (x.val : Int))] (srcG_one okIn W2 (39, (x.val : Int))) (by simp) (by simp) ?_; intro v' w3 o3 s3; obtain ⟨oo3, cc3, hv3⟩ := o3.form; have HO3 : Hid (Row w1 w3 v' (wyC true true x y)) := HRW.out.step ((Fr.refl no W2).alloc _ _) o3 s3; clear o3 s3; change v' = .slice oo3 6 cc3 at hv3; subst hv3) | fail)
 have G3 : Fr no w w3 := HF1.out.new HO3.out.2.2 (fun _ _ f => f)
 have GD := good_any w3 (HK.out w3 G3).1 (HK.out w3 G3).2 _ _ _ (wyC true true x y) (HO3.out.1.sl okIn) (by simp [wyC]) (wyC_b _ _ x y) 100 100 res lr HAK.out HLK.out
 have HG3 : Hid (Fr no w w3) := G3
 clear G3
 rw [HD.out] at GD
 by_cases e : x = y
 · subst e
   rw [decide_eq_true rfl] at GD
   refine GD.mono ?_
   rintro e w4 ⟨rfl, f4⟩
   go_wp2_with fail
   go_ret
   exact ⟨by simp, HG3.out.new f4 (fun _ _ f => f)⟩
 · have hne : ¬ (x.val : Int) = (y.val : Int) := fun h => e (Fin.ext (by omega))
   rw [decide_eq_false e] at GD
   refine GD.mono ?_
   rintro e w4 ⟨rfl, f4⟩
   go_wp2_with fail
   go_ret
   exact ⟨by simp [hne], HG3.out.new f4 (fun _ _ f => f)⟩
theorem ways_any (w : World) (T : Tb w) (R : Tr w) (p q : Bool) (a : Int) (ha : 0 ≤ a) (_ha' : a ≤ 255) (b : Int) (hb : 0 ≤ b) (_hb' : b ≤ 255) :
 Calls Tryz.prog 5 #[.bool p, .bool q, .int .u8 a, .int .u8 b] w fun e w' => e = .returned (.bool true) ∧ Fr no w w' := by
 cases p <;> cases q
 · exact ways_ff_any w T R a ha b hb
 · exact ways_ft_any w T R a ha b hb
 · exact ways_tf_any w T R a ha b hb
 · exact ways_tt_any w T R a ha b hb
end Go.Proofs.YtalgjpmaafooeaaGreatDoor
