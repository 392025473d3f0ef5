/- The statement on what fits: a type and itself. -/
import Derived.Test.YtabiagheflkiaaaSix
import Derived.Deep.RegionHeld3
import Derived.BigQuiet
namespace Go.Proofs.Ytabiagheflkiaaa
open Go.ChangeShapes Go.WideShapes Go.ChangeAt Go.RowKit

set_option maxRecDepth 100000 in
set_option maxHeartbeats 4000000 in
theorem fit_eq (w : World) (n0 : Nat) (h0 : n0 < 256) (n1 : Nat) (h1 : n1 < 256) (cls : Bool) (hA : n0 % 6 = n1 % 6) : Calls Try.prog 8 #[.int .u8 (n0 : Int), .int .u8 (n1 : Int), .bool cls] w fun e w' => e = .returned (.bool true) ∧ Fr no w w' := by
  have KN := known_any w
  have ex : (n0 : Int) % 6 = ((n0 % 6 : Nat) : Int) := by omega
  have ey : (n1 : Int) % 6 = ((n1 % 6 : Nat) : Int) := by omega
  have hx : n0 % 6 < 6 := Nat.mod_lt _ (by omega)
  have hy : n1 % 6 < 6 := Nat.mod_lt _ (by omega)
  generalize n0 % 6 = x at *
  generalize n1 % 6 = y at *
  go_enter Try.func8, Try.ntmps8
  go_wp2_with fail
  refine KN.mono ?_
  rintro e w1 ⟨rfl, f1⟩
  have F1 : Hid (Fr no w w1) := f1
  clear f1 KN
  have L1 : Hid (SlG elS ((w1.alloc (.cells #[.string ⟨#[65]⟩] 9)).alloc (.cells #[.string ⟨#[]⟩] 9)) (.slice (some ⟨w1.heap.size, 0, none⟩) 1 1) [tA]) :=
    (sl_lit w1 [tA] _ rfl (by decide)).keep ((Fr.refl no _).alloc _ _)
  have L2 : Hid (SlG elS ((w1.alloc (.cells #[.string ⟨#[65]⟩] 9)).alloc (.cells #[.string ⟨#[]⟩] 9)) (.slice (some ⟨w1.heap.size + 1, 0, none⟩) 1 1) [t0]) := by
    have := sl_lit (w1.alloc (.cells #[.string ⟨#[65]⟩] 9)) [t0] #[.string ⟨#[]⟩] rfl (by decide)
    show SlG _ _ _ _
    simpa using this
  have N2 := new_any _ _ _ [tA] [t0] L1.out L2.out (by decide) (by decide) (by decide) (by decide)
  rw [kf1] at N2
  have G1 : Hid (Fr no w1 ((w1.alloc (.cells #[.string ⟨#[65]⟩] 9)).alloc (.cells #[.string ⟨#[]⟩] 9))) := ((Fr.refl no w1).alloc _ _).alloc _ _
  go_wp2_with fail
  refine N2.mono ?_
  rintro e w2 ⟨q, rfl, n2, f2⟩
  obtain ⟨p, rfl, hb2, fi2, -⟩ := n2.2 rfl
  have F2 : Hid (Fr no w (lay w2)) := F1.out.and (G1.out.and (f2.and ((((Fr.refl no w2).alloc _ _).alloc _ _).alloc _ _)))
  have LA : Hid (∀ w3, Fr no (lay w2) w3 → Laid w3 x y w2.heap.size) := fun w3 f => laid_at w2 w3 f x y hx hy
  have FT : Hid (∀ w3, Fr no (lay w2) w3 → ∀ ka ca kb cb, ca.size ≤ 1099511627776 → Calls Try.prog 23 #[.pointer (some ⟨p, 0, none⟩), .agg #[.int .i64 ka, .string ca], .agg #[.int .i64 kb, .string cb]] w3 fun e w4 => e = .returned (.bool (fits [obj, fault, tA] [0, 0, 0] ⟨ka, ca⟩ ⟨kb, cb⟩)) ∧ Fr no (lay w2) w4) := by
    intro w3 f ka ca kb cb hs
    refine (fits_any w3 p _ _ (hb2.keep (Fr.and ((((Fr.refl no w2).alloc _ _).alloc _ _).alloc _ _) f)) fi2 (by decide) ⟨ka, ca⟩ ⟨kb, cb⟩ hs).mono ?_
    rintro e w4 ⟨rfl, f4⟩
    exact ⟨rfl, f.and f4⟩
  have WD : Hid (∀ w3, Fr no (lay w2) w3 → ∀ ka ca, Calls Try.prog 27 #[.agg #[.int .i64 ka, .string ca]] w3 fun e w4 => e = .returned (.int .i64 (words ⟨ka, ca⟩)) ∧ Fr no (lay w2) w4) := by
    intro w3 f ka ca
    refine (words_any w3 ⟨ka, ca⟩).mono ?_
    rintro e w4 ⟨rfl, f4⟩
    exact ⟨rfl, f.and f4⟩
  have E1 : fits [obj, fault, tA] [0, 0, 0] ⟨sixK x, sixC x⟩ ⟨sixK y, sixC y⟩ = want x y := kf2 ⟨x, hx⟩ ⟨y, hy⟩
  have E2 : words ⟨sixK x, sixC x⟩ = sixW x := kf3 ⟨x, hx⟩
  have E3 : x = 4 → fits [obj, fault, tA] [0, 0, 0] ⟨sixK x, sixC x⟩ ⟨4, obj⟩ = true ∧ fits [obj, fault, tA] [0, 0, 0] ⟨4, obj⟩ ⟨sixK x, sixC x⟩ = false := by rintro rfl; exact ⟨kf4, kf5⟩
  have ZX : Hid ((sixC x).size ≤ 1099511627776) := kf6 ⟨x, hx⟩
  clear n2 hb2 fi2 f2 L1 L2 G1 F1 N2
  generalize [obj, fault, tA] = N at *
  generalize ([0, 0, 0] : List Nat) = A at *
  have hx0 : (0 : Int) ≤ (x : Int) := by omega
  have hx6 : (x : Int) < 6 := by omega
  have hy0 : (0 : Int) ≤ (y : Int) := by omega
  have hy6 : (y : Int) < 6 := by omega
  by_cases h5 : x < 5
  · have hw : want x y = true := by simp [want]; omega
    rw [hw] at E1
    clear hw
    have e40 : ((x : Int) == (y : Int)) = true := by simp; omega
    have e43 : (x : Int) < 5 := by omega
    cases cls with
    | false =>
      clear E3
      (try clear hA); (try clear hB); (try clear hC); (try clear hD); (try clear hE); (try clear h4); (try clear h5)
      go_wp2_with fail
      go_quiet (fail)
      generalize hwq : World.drewN _ nq = wq
      have KQ : Hid (Fr no (lay w2) wq) := by rw [← hwq]; exact (Fr.refl no (lay w2)).drewN nq
      have KD : Hid (Fr no (lay w2) wq.drew ∧ Laid wq.drew x y w2.heap.size) := ⟨KQ.out.drew, LA.out _ KQ.out.drew⟩
      clear hwq KQ
      go_wp2_with fail
      go_region_held3 (fun w3 => Fr no (lay w2) w3 ∧ Laid w3 x y w2.heap.size) (first | exact KD.out | exact ⟨by assumption, LA.out _ (by assumption)⟩) (first | (go_at_call 23; refine (FT.out _ (by first | assumption | exact KD.out.1) _ _ _ _ (by first | exact ZX.out | decide)).mono ?_; rintro e w3 ⟨rfl, f3⟩) | (go_at_call 27; refine (WD.out _ (by first | assumption | exact KD.out.1) _ _).mono ?_; rintro e w3 ⟨rfl, f3⟩))
      go_wp2_with fail
      go_ret
      exact ⟨rfl, F2.out.and f3⟩
    | true =>
      by_cases h4 : x = 4
      · obtain ⟨E4, E5⟩ := E3 h4
        have e66 : ((x : Int) == 4) = true := by simp; omega
        clear E3
        (try clear hA); (try clear hB); (try clear hC); (try clear hD); (try clear hE); (try clear h4); (try clear h5)
        have KD : Hid (Fr no (lay w2) (lay w2).drew ∧ Laid (lay w2).drew x y w2.heap.size) := ⟨(Fr.refl no _).drew, LA.out _ (Fr.refl no _).drew⟩
        go_wp2_with fail
        go_region_held3 (fun w3 => Fr no (lay w2) w3 ∧ Laid w3 x y w2.heap.size) (first | exact KD.out | exact ⟨by assumption, LA.out _ (by assumption)⟩) (first | (go_at_call 23; refine (FT.out _ (by first | assumption | exact KD.out.1) _ _ _ _ (by first | exact ZX.out | decide)).mono ?_; rintro e w3 ⟨rfl, f3⟩) | (go_at_call 27; refine (WD.out _ (by first | assumption | exact KD.out.1) _ _).mono ?_; rintro e w3 ⟨rfl, f3⟩))
        clear KD
        have KD : Hid (Fr no (lay w2) w3.drew ∧ Laid w3.drew x y w2.heap.size) := ⟨f3.drew, LA.out _ f3.drew⟩
        go_wp2_with fail
        go_region_held3 (fun w3 => Fr no (lay w2) w3 ∧ Laid w3 x y w2.heap.size) (first | exact KD.out | exact ⟨by assumption, LA.out _ (by assumption)⟩) (first | (go_at_call 23; refine (FT.out _ (by first | assumption | exact KD.out.1) _ _ _ _ (by first | exact ZX.out | decide)).mono ?_; rintro e w3 ⟨rfl, f3⟩) | (go_at_call 27; refine (WD.out _ (by first | assumption | exact KD.out.1) _ _).mono ?_; rintro e w3 ⟨rfl, f3⟩))
        go_wp2_with fail
        go_ret
        exact ⟨rfl, F2.out.and f3⟩
      have e66 : ((x : Int) == 4) = false := by simp; omega
      clear E3
      (try clear hA); (try clear hB); (try clear hC); (try clear hD); (try clear hE); (try clear h4); (try clear h5)
      go_wp2_with fail
      go_quiet (fail)
      generalize hwq : World.drewN _ nq = wq
      have KQ : Hid (Fr no (lay w2) wq) := by rw [← hwq]; exact (Fr.refl no (lay w2)).drewN nq
      have KD : Hid (Fr no (lay w2) wq.drew ∧ Laid wq.drew x y w2.heap.size) := ⟨KQ.out.drew, LA.out _ KQ.out.drew⟩
      clear hwq KQ
      go_wp2_with fail
      go_region_held3 (fun w3 => Fr no (lay w2) w3 ∧ Laid w3 x y w2.heap.size) (first | exact KD.out | exact ⟨by assumption, LA.out _ (by assumption)⟩) (first | (go_at_call 23; refine (FT.out _ (by first | assumption | exact KD.out.1) _ _ _ _ (by first | exact ZX.out | decide)).mono ?_; rintro e w3 ⟨rfl, f3⟩) | (go_at_call 27; refine (WD.out _ (by first | assumption | exact KD.out.1) _ _).mono ?_; rintro e w3 ⟨rfl, f3⟩))
      go_wp2_with fail
      go_ret
      exact ⟨rfl, F2.out.and f3⟩
  have hw : want x y = true := by simp [want]; omega
  rw [hw] at E1
  clear hw
  have e40 : ((x : Int) == (y : Int)) = true := by simp; omega
  have e43 : ¬ (x : Int) < 5 := by omega
  have e47 : ((y : Int) == 5) = true := by simp; omega
  cases cls with
  | false =>
    clear E3
    (try clear hA); (try clear hB); (try clear hC); (try clear hD); (try clear hE); (try clear h4); (try clear h5)
    go_wp2_with fail
    go_quiet (fail)
    generalize hwq : World.drewN _ nq = wq
    have KQ : Hid (Fr no (lay w2) wq) := by rw [← hwq]; exact (Fr.refl no (lay w2)).drewN nq
    have KD : Hid (Fr no (lay w2) wq.drew ∧ Laid wq.drew x y w2.heap.size) := ⟨KQ.out.drew, LA.out _ KQ.out.drew⟩
    clear hwq KQ
    go_wp2_with fail
    go_region_held3 (fun w3 => Fr no (lay w2) w3 ∧ Laid w3 x y w2.heap.size) (first | exact KD.out | exact ⟨by assumption, LA.out _ (by assumption)⟩) (first | (go_at_call 23; refine (FT.out _ (by first | assumption | exact KD.out.1) _ _ _ _ (by first | exact ZX.out | decide)).mono ?_; rintro e w3 ⟨rfl, f3⟩) | (go_at_call 27; refine (WD.out _ (by first | assumption | exact KD.out.1) _ _).mono ?_; rintro e w3 ⟨rfl, f3⟩))
    go_wp2_with fail
    go_ret
    exact ⟨rfl, F2.out.and f3⟩
  | true =>
    have e66 : ((x : Int) == 4) = false := by simp; omega
    clear E3
    (try clear hA); (try clear hB); (try clear hC); (try clear hD); (try clear hE); (try clear h4); (try clear h5)
    go_wp2_with fail
    go_quiet (fail)
    generalize hwq : World.drewN _ nq = wq
    have KQ : Hid (Fr no (lay w2) wq) := by rw [← hwq]; exact (Fr.refl no (lay w2)).drewN nq
    have KD : Hid (Fr no (lay w2) wq.drew ∧ Laid wq.drew x y w2.heap.size) := ⟨KQ.out.drew, LA.out _ KQ.out.drew⟩
    clear hwq KQ
    go_wp2_with fail
    go_region_held3 (fun w3 => Fr no (lay w2) w3 ∧ Laid w3 x y w2.heap.size) (first | exact KD.out | exact ⟨by assumption, LA.out _ (by assumption)⟩) (first | (go_at_call 23; refine (FT.out _ (by first | assumption | exact KD.out.1) _ _ _ _ (by first | exact ZX.out | decide)).mono ?_; rintro e w3 ⟨rfl, f3⟩) | (go_at_call 27; refine (WD.out _ (by first | assumption | exact KD.out.1) _ _).mono ?_; rintro e w3 ⟨rfl, f3⟩))
    go_wp2_with fail
    go_ret
    exact ⟨rfl, F2.out.and f3⟩
end Go.Proofs.Ytabiagheflkiaaa
