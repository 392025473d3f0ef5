/- The closed programs of two of the statements. -/
import Derived.Test.YtalgjpmaafooeaaGreatDoorKaz
namespace Go.Proofs.YtalgjpmaafooeaaGreatDoor
open Go.ChangeShapes Go.WideShapes Go.ChangeAt Go.RowKit
open H (ky Owns MapOf ix NewV)
theorem fit1 : ∀ x ∈ pool1, fitS x.c ∧ fitS x.m := by
 intro x hx
 simp only [pool1, List.mem_cons, List.not_mem_nil, or_false] at hx
 subst hx
 exact ⟨fitS_lit (by decide), fitS_lit (by decide)⟩
def stC (a b : Fin 8) : List (Int × Int) := [(38, (a.val : Int)), (3, 0), (5, (b.val : Int)), (39, (a.val : Int))]
theorem stored_link : ∀ a b : Fin 8, linkE [mainK 8 2 (allCd (stC a b)) pool1] = 0 := by decide +kernel
theorem stored_run : ∀ a b : Fin 8, (settleP 2 (allCd (stC a b)) ((allCd (stC a b)).map fun x : Int × Int => ruleP x.1) 100 0 (beg sMain tops (allCd (stC a b)).length)).map (fun r => r.1) = some 0 := by decide +kernel
theorem stored_fits : ∀ a b : Fin 8, (fitsP (allCd (stC a b)) 100 (comeP 0 [] (wk0 (allCd (stC a b)).length)).2).map (fun r => r.1) = some (decide (a ≠ b)) := by decide +kernel
theorem stored_ops : ∀ a b : Fin 8, ∀ x ∈ allCd (stC a b), x.1 ∈ plainOps ∨ x.1 = 33 := by decide +kernel
theorem stored_len : ∀ a b : Fin 8, 0 < (allCd (stC a b)).length ∧ (allCd (stC a b)).length ≤ 200 := by decide +kernel
theorem ask_stored (a b : Fin 8) : ∃ res lr, Asked 8 2 tops (allCd (stC a b)) pool1 100 res ∧ fitsP (allCd (stC a b)) 100 (comeP 0 [] (wk0 (allCd (stC a b)).length)).2 = some lr ∧ decide (lockE res.1 lr.1 = 0) = (decide (a ≠ b)) := by
 have h0 := stored_run a b
 have h1 := stored_fits a b
 obtain ⟨res, hr, e0⟩ := Option.map_eq_some_iff.1 h0
 obtain ⟨lr, hl, e1⟩ := Option.map_eq_some_iff.1 h1
 refine ⟨res, lr, ⟨stored_link a b, fit_main 8 2 _ pool1 fit1, .inr (.inr ⟨rfl, rfl⟩), (stored_len a b).1, (stored_len a b).2, stored_ops a b, hr⟩, hl, ?_⟩
 rw [e0, e1]
 unfold lockE
 rw [if_neg (by simp)]
 cases h : (decide (a ≠ b)) <;> simp
def wyC (p q : Bool) (a b : Fin 8) : List (Int × Int) := [(1, 0), (23, 4), (if p = true then (38, (a.val : Int)) else (0, 0)), (22, 5), (if q = true then (38, (b.val : Int)) else (0, 0))] ++ (if p = true then [(39, (a.val : Int))] else [])
theorem ways_tt : ∀ a b : Fin 8, linkE [mainK 8 2 (allCd (wyC true true a b)) pool1] = 0 ∧ (settleP 2 (allCd (wyC true true a b)) ((allCd (wyC true true a b)).map fun x : Int × Int => ruleP x.1) 100 0 (beg sMain tops (allCd (wyC true true a b)).length)).map (fun r => r.1) = some 0 ∧ (fitsP (allCd (wyC true true a b)) 100 (comeP 0 [] (wk0 (allCd (wyC true true a b)).length)).2).map (fun r => r.1) = some ((true == true) && (!true || decide ((a : Fin 8) = b))) ∧ (∀ x ∈ allCd (wyC true true a b), x.1 ∈ plainOps ∨ x.1 = 33) ∧ 0 < (allCd (wyC true true a b)).length ∧ (allCd (wyC true true a b)).length ≤ 200 := by decide +kernel
theorem ways_tf : ∀ a : Fin 8, linkE [mainK 8 2 (allCd (wyC true false a 0)) pool1] = 0 ∧ (settleP 2 (allCd (wyC true false a 0)) ((allCd (wyC true false a 0)).map fun x : Int × Int => ruleP x.1) 100 0 (beg sMain tops (allCd (wyC true false a 0)).length)).map (fun r => r.1) = some 0 ∧ (fitsP (allCd (wyC true false a 0)) 100 (comeP 0 [] (wk0 (allCd (wyC true false a 0)).length)).2).map (fun r => r.1) = some ((true == false) && (!true || decide ((a : Fin 8) = 0))) ∧ (∀ x ∈ allCd (wyC true false a 0), x.1 ∈ plainOps ∨ x.1 = 33) ∧ 0 < (allCd (wyC true false a 0)).length ∧ (allCd (wyC true false a 0)).length ≤ 200 := by decide +kernel
theorem ways_ft : ∀ b : Fin 8, linkE [mainK 8 2 (allCd (wyC false true 0 b)) pool1] = 0 ∧ (settleP 2 (allCd (wyC false true 0 b)) ((allCd (wyC false true 0 b)).map fun x : Int × Int => ruleP x.1) 100 0 (beg sMain tops (allCd (wyC false true 0 b)).length)).map (fun r => r.1) = some 0 ∧ (fitsP (allCd (wyC false true 0 b)) 100 (comeP 0 [] (wk0 (allCd (wyC false true 0 b)).length)).2).map (fun r => r.1) = some ((false == true) && (!false || decide ((0 : Fin 8) = b))) ∧ (∀ x ∈ allCd (wyC false true 0 b), x.1 ∈ plainOps ∨ x.1 = 33) ∧ 0 < (allCd (wyC false true 0 b)).length ∧ (allCd (wyC false true 0 b)).length ≤ 200 := by decide +kernel
theorem ways_ff : linkE [mainK 8 2 (allCd (wyC false false 0 0)) pool1] = 0 ∧ (settleP 2 (allCd (wyC false false 0 0)) ((allCd (wyC false false 0 0)).map fun x : Int × Int => ruleP x.1) 100 0 (beg sMain tops (allCd (wyC false false 0 0)).length)).map (fun r => r.1) = some 0 ∧ (fitsP (allCd (wyC false false 0 0)) 100 (comeP 0 [] (wk0 (allCd (wyC false false 0 0)).length)).2).map (fun r => r.1) = some ((false == false) && (!false || decide ((0 : Fin 8) = 0))) ∧ (∀ x ∈ allCd (wyC false false 0 0), x.1 ∈ plainOps ∨ x.1 = 33) ∧ 0 < (allCd (wyC false false 0 0)).length ∧ (allCd (wyC false false 0 0)).length ≤ 200 := by decide +kernel
theorem ways_all (p q : Bool) (a b : Fin 8) : linkE [mainK 8 2 (allCd (wyC p q a b)) pool1] = 0 ∧ (settleP 2 (allCd (wyC p q a b)) ((allCd (wyC p q a b)).map fun x : Int × Int => ruleP x.1) 100 0 (beg sMain tops (allCd (wyC p q a b)).length)).map (fun r => r.1) = some 0 ∧ (fitsP (allCd (wyC p q a b)) 100 (comeP 0 [] (wk0 (allCd (wyC p q a b)).length)).2).map (fun r => r.1) = some ((p == q) && (!p || decide (a = b))) ∧ (∀ x ∈ allCd (wyC p q a b), x.1 ∈ plainOps ∨ x.1 = 33) ∧ 0 < (allCd (wyC p q a b)).length ∧ (allCd (wyC p q a b)).length ≤ 200 := by
 cases p <;> cases q
 · exact ways_ff
 · exact ways_ft b
 · exact ways_tf a
 · exact ways_tt a b
theorem ask_ways (p q : Bool) (a b : Fin 8) : ∃ res lr, Asked 8 2 tops (allCd (wyC p q a b)) pool1 100 res ∧ fitsP (allCd (wyC p q a b)) 100 (comeP 0 [] (wk0 (allCd (wyC p q a b)).length)).2 = some lr ∧ decide (lockE res.1 lr.1 = 0) = ((p == q) && (!p || decide (a = b))) := by
 obtain ⟨h2, h0, h1, h3, h4, h5⟩ := ways_all p q a b
 obtain ⟨res, hr, e0⟩ := Option.map_eq_some_iff.1 h0
 obtain ⟨lr, hl, e1⟩ := Option.map_eq_some_iff.1 h1
 refine ⟨res, lr, ⟨h2, fit_main 8 2 _ pool1 fit1, .inr (.inr ⟨rfl, rfl⟩), h4, h5, h3, hr⟩, hl, ?_⟩
 rw [e0, e1]
 unfold lockE
 rw [if_neg (by simp)]
 cases h : ((p == q) && (!p || decide (a = b))) <;> simp
end Go.Proofs.YtalgjpmaafooeaaGreatDoor
