/- The law RaceClocks: the walk. -/
import Derived.Test.YtnineggppoipiaaKc
import Derived.Test.YtnineggppoipiaaKp
namespace Go.Proofs.Ytnineggppoipiaa
open Go.ChangeShapes Go.WideShapes Go.ChangeAt Go.RowKit

theorem before_eq {a b c d : Nat → Int} (h1 : ∀ j, j < 13 → a j = c j) (h2 : ∀ j, j < 13 → b j = d j) : beforeB a b = beforeB c d := by
  have : ∀ x y : Nat → Int, ∀ z u : Nat → Int, (∀ j, j < 13 → x j = z j) → (∀ j, j < 13 → y j = u j) → beforeB x y = true → beforeB z u = true := fun x y z u e1 e2 h => before_yes fun j hj => by
    rw [← e1 j hj, ← e2 j hj]
    exact (before_iff x y).1 h j hj
  cases h : beforeB a b with
  | true => exact (this a b c d h1 h2 h).symm
  | false =>
    cases h3 : beforeB c d with
    | false => rfl
    | true =>
      have := this c d a b (fun j hj => (h1 j hj).symm) (fun j hj => (h2 j hj).symm) h3
      rw [h] at this
      exact absurd this (by decide)
theorem whole_map (c : Nat → Int) : ∀ j, j < 13 → wholeC ((List.range 13).map c) j = c j := fun j hj => by
  unfold wholeC
  rw [List.getD_eq_getElem?_getD, List.getElem?_map, List.getElem?_range hj]
  rfl
theorem ints_bd {l : List Nat} (hb : ∀ c ∈ l, c < 256) : Bd (wholeC (ints l)) := fun j => by
  unfold wholeC ints
  rw [List.getD_eq_getElem?_getD, List.getElem?_map]
  cases h : l[j]? with
  | none => simp
  | some x =>
    have := hb x (List.mem_of_getElem? h)
    simp
    omega
theorem before_trans {a b c : Nat → Int} (h1 : beforeB a b = true) (h2 : beforeB b c = true) : beforeB a c = true := before_yes fun j hj => Int.le_trans ((before_iff a b).1 h1 j hj) ((before_iff b c).1 h2 j hj)
theorem before_refl (a : Nat → Int) : beforeB a a = true := before_yes fun _ _ => Int.le_refl _
theorem join_least {a b c : Nat → Int} (h1 : beforeB a c = true) (h2 : beforeB b c = true) : beforeB (joinC a b) c = true := before_yes fun j hj => by
  have x := (before_iff a c).1 h1 j hj
  have y := (before_iff b c).1 h2 j hj
  unfold joinC
  omega

set_option maxRecDepth 100000 in
set_option maxHeartbeats 4000000 in
theorem clocks_all (w : World) (v0 : Value) (l0 : List Nat) (v1 : Value) (l1 : List Nat) (v2 : Value) (l2 : List Nat) (h0 : RdG elY w v0 l0) (b0 : ∀ c ∈ l0, c < 256) (h1 : RdG elY w v1 l1) (b1 : ∀ c ∈ l1, c < 256) (h2 : RdG elY w v2 l2) (b2 : ∀ c ∈ l2, c < 256) :
    Calls Try.prog 4 #[v0, v1, v2] w fun e w' => e = .returned (.bool true) ∧ Fr no w w' := by
  have R0 : Hid (RdG elY w v0 l0) := h0
  have R1 : Hid (RdG elY w v1 l1) := h1
  have R2 : Hid (RdG elY w v2 l2) := h2
  obtain ⟨a0, c0, rfl⟩ := h0.form
  obtain ⟨a1, c1, rfl⟩ := h1.form
  obtain ⟨a2, c2, rfl⟩ := h2.form
  have B0 : Hid (∀ c ∈ l0, c < 256) := b0
  have B1 : Hid (∀ c ∈ l1, c < 256) := b1
  have B2 : Hid (∀ c ∈ l2, c < 256) := b2
  have KN := known_any w
  clear h0 h1 h2 b0 b1 b2
  generalize hn0 : l0.length = n0 at *
  generalize hn1 : l1.length = n1 at *
  generalize hn2 : l2.length = n2 at *
  by_cases g0 : n0 > 13
  · have g02 : (n0 : Int) > 13 := by omega
    go_enter Try.func4, Try.ntmps4
    go_wp2_with fail
    refine KN.mono ?_
    rintro _ w1 ⟨rfl, f1⟩
    have HF : Hid _ := f1
    clear KN f1
    go_wp2_with fail
    go_ret
    exact ⟨rfl, HF.out⟩
  · have g02 : ¬ ((n0 : Int) > 13) := by omega
    by_cases g1 : n1 > 13
    · have g12 : (n1 : Int) > 13 := by omega
      go_enter Try.func4, Try.ntmps4
      go_wp2_with fail
      refine KN.mono ?_
      rintro _ w1 ⟨rfl, f1⟩
      have HF : Hid _ := f1
      clear KN f1
      go_wp2_with fail
      go_ret
      exact ⟨rfl, HF.out⟩
    · have g12 : ¬ ((n1 : Int) > 13) := by omega
      by_cases g2 : n2 > 13
      · have g22 : (n2 : Int) > 13 := by omega
        go_enter Try.func4, Try.ntmps4
        go_wp2_with fail
        refine KN.mono ?_
        rintro _ w1 ⟨rfl, f1⟩
        have HF : Hid _ := f1
        clear KN f1
        go_wp2_with fail
        go_ret
        exact ⟨rfl, HF.out⟩
      · have g22 : ¬ ((n2 : Int) > 13) := by omega
        go_enter Try.func4, Try.ntmps4
        go_wp2_with fail
        refine KN.mono ?_
        rintro _ w1 ⟨rfl, f1⟩
        have HF1 : Hid _ := f1
        have K0 := clk_any w1 _ l0 (R0.out.keep f1) B0.out (by omega)
        clear KN f1
        go_wp2_with fail
        refine K0.mono ?_
        rintro _ w2 ⟨x, rfl, rx, f2⟩
        have HF2 : Hid _ := HF1.out.and f2
        have RX : Hid (RdI w2 x (ints l0)) := rx
        have K1 := clk_any w2 _ l1 (R1.out.keep HF2.out) B1.out (by omega)
        clear K0 f2 HF1 rx
        go_wp2_with fail
        refine K1.mono ?_
        rintro _ w3 ⟨y, rfl, ry, f3⟩
        have HF3 : Hid _ := HF2.out.and f3
        have RX3 : Hid (RdI w3 x (ints l0)) := RX.out.keep f3
        have RY : Hid (RdI w3 y (ints l1)) := ry
        have K2 := clk_any w3 _ l2 (R2.out.keep HF3.out) B2.out (by omega)
        clear K1 f3 HF2 ry RX
        go_wp2_with fail
        refine K2.mono ?_
        rintro _ w4 ⟨z, rfl, rz, f4⟩
        have HF4 : Hid _ := HF3.out.and f4
        have RX4 : Hid (RdI w4 x (ints l0)) := RX3.out.keep f4
        have RY4 : Hid (RdI w4 y (ints l1)) := RY.out.keep f4
        have RZ4 : Hid (RdI w4 z (ints l2)) := rz
        have m0 : (ints l0).length ≤ 13 := by unfold ints; rw [List.length_map]; omega
        have m1 : (ints l1).length ≤ 13 := by unfold ints; rw [List.length_map]; omega
        have m2 : (ints l2).length ≤ 13 := by unfold ints; rw [List.length_map]; omega
        have JJ := joinL_any w4 x y (ints l0) (ints l1) RX4.out RY4.out m0 m1 (ints_bd B0.out) (ints_bd B1.out)
        clear K2 f4 HF3 rz RX3 RY
        go_wp2_with fail
        refine JJ.mono ?_
        rintro _ w5 ⟨jv, rfl, hj, f5⟩
        have HF5 : Hid _ := HF4.out.and f5
        have hjr := hj.rd
        have m3 : ((List.range 13).map (joinC (wholeC (ints l0)) (wholeC (ints l1)))).length ≤ 13 := by rw [List.length_map, List.length_range]; omega
        have XX : Hid (∀ w6, Fr no w5 w6 → Calls Try.prog 31 #[x, x] w6 fun e w' => e = .returned (.bool true) ∧ Fr no w6 w') := fun w6 f => by
          have := beforeL_any w6 x x _ _ (RX4.out.keep (f5.and f)) (RX4.out.keep (f5.and f)) m0 m0
          rwa [before_refl] at this
        have XJ : Hid (∀ w6, Fr no w5 w6 → Calls Try.prog 31 #[x, jv] w6 fun e w' => e = .returned (.bool true) ∧ Fr no w6 w') := fun w6 f => by
          have := beforeL_any w6 x jv _ _ (RX4.out.keep (f5.and f)) (hjr.keep f) m0 m3
          rwa [before_eq (c := wholeC (ints l0)) (d := joinC (wholeC (ints l0)) (wholeC (ints l1))) (fun _ _ => rfl) (whole_map _), before_yes (fun j _ => by unfold joinC; omega)] at this
        have YJ : Hid (∀ w6, Fr no w5 w6 → Calls Try.prog 31 #[y, jv] w6 fun e w' => e = .returned (.bool true) ∧ Fr no w6 w') := fun w6 f => by
          have := beforeL_any w6 y jv _ _ (RY4.out.keep (f5.and f)) (hjr.keep f) m1 m3
          rwa [before_eq (c := wholeC (ints l1)) (d := joinC (wholeC (ints l0)) (wholeC (ints l1))) (fun _ _ => rfl) (whole_map _), before_yes (fun j _ => by unfold joinC; omega)] at this
        have XY : Hid (∀ w6, Fr no w5 w6 → Calls Try.prog 31 #[x, y] w6 fun e w' => e = .returned (.bool (beforeB (wholeC (ints l0)) (wholeC (ints l1)))) ∧ Fr no w6 w') := fun w6 f => beforeL_any w6 x y _ _ (RX4.out.keep (f5.and f)) (RY4.out.keep (f5.and f)) m0 m1
        have YZ : Hid (∀ w6, Fr no w5 w6 → Calls Try.prog 31 #[y, z] w6 fun e w' => e = .returned (.bool (beforeB (wholeC (ints l1)) (wholeC (ints l2)))) ∧ Fr no w6 w') := fun w6 f => beforeL_any w6 y z _ _ (RY4.out.keep (f5.and f)) (RZ4.out.keep (f5.and f)) m1 m2
        have XZ : Hid (∀ w6, Fr no w5 w6 → Calls Try.prog 31 #[x, z] w6 fun e w' => e = .returned (.bool (beforeB (wholeC (ints l0)) (wholeC (ints l2)))) ∧ Fr no w6 w') := fun w6 f => beforeL_any w6 x z _ _ (RX4.out.keep (f5.and f)) (RZ4.out.keep (f5.and f)) m0 m2
        have JZ : Hid (∀ w6, Fr no w5 w6 → Calls Try.prog 31 #[jv, z] w6 fun e w' => e = .returned (.bool (beforeB (joinC (wholeC (ints l0)) (wholeC (ints l1))) (wholeC (ints l2)))) ∧ Fr no w6 w') := fun w6 f => by
          have := beforeL_any w6 jv z _ _ (hjr.keep f) (RZ4.out.keep (f5.and f)) m3 m2
          rwa [before_eq (c := joinC (wholeC (ints l0)) (wholeC (ints l1))) (d := wholeC (ints l2)) (whole_map _) (fun _ _ => rfl)] at this
        have TR : Hid (beforeB (wholeC (ints l0)) (wholeC (ints l1)) = true → beforeB (wholeC (ints l1)) (wholeC (ints l2)) = true → beforeB (wholeC (ints l0)) (wholeC (ints l2)) = true) := before_trans
        have LE : Hid (beforeB (wholeC (ints l0)) (wholeC (ints l2)) = true → beforeB (wholeC (ints l1)) (wholeC (ints l2)) = true → beforeB (joinC (wholeC (ints l0)) (wholeC (ints l1))) (wholeC (ints l2)) = true) := join_least
        obtain ⟨bj, rfl, -⟩ := hj
        generalize beforeB (wholeC (ints l0)) (wholeC (ints l1)) = pxy at *
        generalize beforeB (wholeC (ints l1)) (wholeC (ints l2)) = pyz at *
        generalize beforeB (wholeC (ints l0)) (wholeC (ints l2)) = pxz at *
        generalize beforeB (joinC (wholeC (ints l0)) (wholeC (ints l1))) (wholeC (ints l2)) = pjz at *
        clear JJ f5 HF4 hjr RX4 RY4 RZ4 m0 m1 m2 m3 R0 R1 R2 B0 B1 B2 hn0 hn1 hn2
        have HW : Hid (Fr no w5 w5) := Fr.refl _ _
        cases pxy
        · cases pyz
          · cases pxz
            · go_wp2_with fail
              refine (XX.out w5 HW.out).mono ?_
              rintro _ w6 ⟨rfl, f6⟩
              have HW2 : Hid (Fr no w5 w6) := HW.out.and f6
              clear HW f6
              have HW : Hid _ := HW2
              clear HW2
              go_wp2_with fail
              refine (XJ.out w6 HW.out).mono ?_
              rintro _ w7 ⟨rfl, f7⟩
              have HW2 : Hid (Fr no w5 w7) := HW.out.and f7
              clear HW f7
              have HW : Hid _ := HW2
              clear HW2
              go_wp2_with fail
              refine (YJ.out w7 HW.out).mono ?_
              rintro _ w8 ⟨rfl, f8⟩
              have HW2 : Hid (Fr no w5 w8) := HW.out.and f8
              clear HW f8
              have HW : Hid _ := HW2
              clear HW2
              go_wp2_with fail
              refine (XY.out w8 HW.out).mono ?_
              rintro _ w9 ⟨rfl, f9⟩
              have HW2 : Hid (Fr no w5 w9) := HW.out.and f9
              clear HW f9
              have HW : Hid _ := HW2
              clear HW2
              go_wp2_with fail
              refine (XZ.out w9 HW.out).mono ?_
              rintro _ w10 ⟨rfl, f10⟩
              have HW2 : Hid (Fr no w5 w10) := HW.out.and f10
              clear HW f10
              have HW : Hid _ := HW2
              clear HW2
              go_wp2_with fail
              go_ret
              exact ⟨rfl, HF5.out.and HW.out⟩
            · go_wp2_with fail
              refine (XX.out w5 HW.out).mono ?_
              rintro _ w6 ⟨rfl, f6⟩
              have HW2 : Hid (Fr no w5 w6) := HW.out.and f6
              clear HW f6
              have HW : Hid _ := HW2
              clear HW2
              go_wp2_with fail
              refine (XJ.out w6 HW.out).mono ?_
              rintro _ w7 ⟨rfl, f7⟩
              have HW2 : Hid (Fr no w5 w7) := HW.out.and f7
              clear HW f7
              have HW : Hid _ := HW2
              clear HW2
              go_wp2_with fail
              refine (YJ.out w7 HW.out).mono ?_
              rintro _ w8 ⟨rfl, f8⟩
              have HW2 : Hid (Fr no w5 w8) := HW.out.and f8
              clear HW f8
              have HW : Hid _ := HW2
              clear HW2
              go_wp2_with fail
              refine (XY.out w8 HW.out).mono ?_
              rintro _ w9 ⟨rfl, f9⟩
              have HW2 : Hid (Fr no w5 w9) := HW.out.and f9
              clear HW f9
              have HW : Hid _ := HW2
              clear HW2
              go_wp2_with fail
              refine (XZ.out w9 HW.out).mono ?_
              rintro _ w10 ⟨rfl, f10⟩
              have HW2 : Hid (Fr no w5 w10) := HW.out.and f10
              clear HW f10
              have HW : Hid _ := HW2
              clear HW2
              go_wp2_with fail
              refine (YZ.out w10 HW.out).mono ?_
              rintro _ w11 ⟨rfl, f11⟩
              have HW2 : Hid (Fr no w5 w11) := HW.out.and f11
              clear HW f11
              have HW : Hid _ := HW2
              clear HW2
              go_wp2_with fail
              go_ret
              exact ⟨rfl, HF5.out.and HW.out⟩
          · cases pxz
            · go_wp2_with fail
              refine (XX.out w5 HW.out).mono ?_
              rintro _ w6 ⟨rfl, f6⟩
              have HW2 : Hid (Fr no w5 w6) := HW.out.and f6
              clear HW f6
              have HW : Hid _ := HW2
              clear HW2
              go_wp2_with fail
              refine (XJ.out w6 HW.out).mono ?_
              rintro _ w7 ⟨rfl, f7⟩
              have HW2 : Hid (Fr no w5 w7) := HW.out.and f7
              clear HW f7
              have HW : Hid _ := HW2
              clear HW2
              go_wp2_with fail
              refine (YJ.out w7 HW.out).mono ?_
              rintro _ w8 ⟨rfl, f8⟩
              have HW2 : Hid (Fr no w5 w8) := HW.out.and f8
              clear HW f8
              have HW : Hid _ := HW2
              clear HW2
              go_wp2_with fail
              refine (XY.out w8 HW.out).mono ?_
              rintro _ w9 ⟨rfl, f9⟩
              have HW2 : Hid (Fr no w5 w9) := HW.out.and f9
              clear HW f9
              have HW : Hid _ := HW2
              clear HW2
              go_wp2_with fail
              refine (XZ.out w9 HW.out).mono ?_
              rintro _ w10 ⟨rfl, f10⟩
              have HW2 : Hid (Fr no w5 w10) := HW.out.and f10
              clear HW f10
              have HW : Hid _ := HW2
              clear HW2
              go_wp2_with fail
              go_ret
              exact ⟨rfl, HF5.out.and HW.out⟩
            · obtain rfl : pjz = true := LE.out rfl rfl
              go_wp2_with fail
              refine (XX.out w5 HW.out).mono ?_
              rintro _ w6 ⟨rfl, f6⟩
              have HW2 : Hid (Fr no w5 w6) := HW.out.and f6
              clear HW f6
              have HW : Hid _ := HW2
              clear HW2
              go_wp2_with fail
              refine (XJ.out w6 HW.out).mono ?_
              rintro _ w7 ⟨rfl, f7⟩
              have HW2 : Hid (Fr no w5 w7) := HW.out.and f7
              clear HW f7
              have HW : Hid _ := HW2
              clear HW2
              go_wp2_with fail
              refine (YJ.out w7 HW.out).mono ?_
              rintro _ w8 ⟨rfl, f8⟩
              have HW2 : Hid (Fr no w5 w8) := HW.out.and f8
              clear HW f8
              have HW : Hid _ := HW2
              clear HW2
              go_wp2_with fail
              refine (XY.out w8 HW.out).mono ?_
              rintro _ w9 ⟨rfl, f9⟩
              have HW2 : Hid (Fr no w5 w9) := HW.out.and f9
              clear HW f9
              have HW : Hid _ := HW2
              clear HW2
              go_wp2_with fail
              refine (XZ.out w9 HW.out).mono ?_
              rintro _ w10 ⟨rfl, f10⟩
              have HW2 : Hid (Fr no w5 w10) := HW.out.and f10
              clear HW f10
              have HW : Hid _ := HW2
              clear HW2
              go_wp2_with fail
              refine (YZ.out w10 HW.out).mono ?_
              rintro _ w11 ⟨rfl, f11⟩
              have HW2 : Hid (Fr no w5 w11) := HW.out.and f11
              clear HW f11
              have HW : Hid _ := HW2
              clear HW2
              go_wp2_with fail
              refine (JZ.out w11 HW.out).mono ?_
              rintro _ w12 ⟨rfl, f12⟩
              have HW2 : Hid (Fr no w5 w12) := HW.out.and f12
              clear HW f12
              have HW : Hid _ := HW2
              clear HW2
              go_wp2_with fail
              go_ret
              exact ⟨rfl, HF5.out.and HW.out⟩
        · cases pyz
          · cases pxz
            · go_wp2_with fail
              refine (XX.out w5 HW.out).mono ?_
              rintro _ w6 ⟨rfl, f6⟩
              have HW2 : Hid (Fr no w5 w6) := HW.out.and f6
              clear HW f6
              have HW : Hid _ := HW2
              clear HW2
              go_wp2_with fail
              refine (XJ.out w6 HW.out).mono ?_
              rintro _ w7 ⟨rfl, f7⟩
              have HW2 : Hid (Fr no w5 w7) := HW.out.and f7
              clear HW f7
              have HW : Hid _ := HW2
              clear HW2
              go_wp2_with fail
              refine (YJ.out w7 HW.out).mono ?_
              rintro _ w8 ⟨rfl, f8⟩
              have HW2 : Hid (Fr no w5 w8) := HW.out.and f8
              clear HW f8
              have HW : Hid _ := HW2
              clear HW2
              go_wp2_with fail
              refine (XY.out w8 HW.out).mono ?_
              rintro _ w9 ⟨rfl, f9⟩
              have HW2 : Hid (Fr no w5 w9) := HW.out.and f9
              clear HW f9
              have HW : Hid _ := HW2
              clear HW2
              go_wp2_with fail
              refine (YZ.out w9 HW.out).mono ?_
              rintro _ w10 ⟨rfl, f10⟩
              have HW2 : Hid (Fr no w5 w10) := HW.out.and f10
              clear HW f10
              have HW : Hid _ := HW2
              clear HW2
              go_wp2_with fail
              refine (XZ.out w10 HW.out).mono ?_
              rintro _ w11 ⟨rfl, f11⟩
              have HW2 : Hid (Fr no w5 w11) := HW.out.and f11
              clear HW f11
              have HW : Hid _ := HW2
              clear HW2
              go_wp2_with fail
              go_ret
              exact ⟨rfl, HF5.out.and HW.out⟩
            · go_wp2_with fail
              refine (XX.out w5 HW.out).mono ?_
              rintro _ w6 ⟨rfl, f6⟩
              have HW2 : Hid (Fr no w5 w6) := HW.out.and f6
              clear HW f6
              have HW : Hid _ := HW2
              clear HW2
              go_wp2_with fail
              refine (XJ.out w6 HW.out).mono ?_
              rintro _ w7 ⟨rfl, f7⟩
              have HW2 : Hid (Fr no w5 w7) := HW.out.and f7
              clear HW f7
              have HW : Hid _ := HW2
              clear HW2
              go_wp2_with fail
              refine (YJ.out w7 HW.out).mono ?_
              rintro _ w8 ⟨rfl, f8⟩
              have HW2 : Hid (Fr no w5 w8) := HW.out.and f8
              clear HW f8
              have HW : Hid _ := HW2
              clear HW2
              go_wp2_with fail
              refine (XY.out w8 HW.out).mono ?_
              rintro _ w9 ⟨rfl, f9⟩
              have HW2 : Hid (Fr no w5 w9) := HW.out.and f9
              clear HW f9
              have HW : Hid _ := HW2
              clear HW2
              go_wp2_with fail
              refine (YZ.out w9 HW.out).mono ?_
              rintro _ w10 ⟨rfl, f10⟩
              have HW2 : Hid (Fr no w5 w10) := HW.out.and f10
              clear HW f10
              have HW : Hid _ := HW2
              clear HW2
              go_wp2_with fail
              refine (XZ.out w10 HW.out).mono ?_
              rintro _ w11 ⟨rfl, f11⟩
              have HW2 : Hid (Fr no w5 w11) := HW.out.and f11
              clear HW f11
              have HW : Hid _ := HW2
              clear HW2
              go_wp2_with fail
              refine (YZ.out w11 HW.out).mono ?_
              rintro _ w12 ⟨rfl, f12⟩
              have HW2 : Hid (Fr no w5 w12) := HW.out.and f12
              clear HW f12
              have HW : Hid _ := HW2
              clear HW2
              go_wp2_with fail
              go_ret
              exact ⟨rfl, HF5.out.and HW.out⟩
          · cases pxz
            · exact absurd (TR.out rfl rfl) (by decide)
            · obtain rfl : pjz = true := LE.out rfl rfl
              go_wp2_with fail
              refine (XX.out w5 HW.out).mono ?_
              rintro _ w6 ⟨rfl, f6⟩
              have HW2 : Hid (Fr no w5 w6) := HW.out.and f6
              clear HW f6
              have HW : Hid _ := HW2
              clear HW2
              go_wp2_with fail
              refine (XJ.out w6 HW.out).mono ?_
              rintro _ w7 ⟨rfl, f7⟩
              have HW2 : Hid (Fr no w5 w7) := HW.out.and f7
              clear HW f7
              have HW : Hid _ := HW2
              clear HW2
              go_wp2_with fail
              refine (YJ.out w7 HW.out).mono ?_
              rintro _ w8 ⟨rfl, f8⟩
              have HW2 : Hid (Fr no w5 w8) := HW.out.and f8
              clear HW f8
              have HW : Hid _ := HW2
              clear HW2
              go_wp2_with fail
              refine (XY.out w8 HW.out).mono ?_
              rintro _ w9 ⟨rfl, f9⟩
              have HW2 : Hid (Fr no w5 w9) := HW.out.and f9
              clear HW f9
              have HW : Hid _ := HW2
              clear HW2
              go_wp2_with fail
              refine (YZ.out w9 HW.out).mono ?_
              rintro _ w10 ⟨rfl, f10⟩
              have HW2 : Hid (Fr no w5 w10) := HW.out.and f10
              clear HW f10
              have HW : Hid _ := HW2
              clear HW2
              go_wp2_with fail
              refine (XZ.out w10 HW.out).mono ?_
              rintro _ w11 ⟨rfl, f11⟩
              have HW2 : Hid (Fr no w5 w11) := HW.out.and f11
              clear HW f11
              have HW : Hid _ := HW2
              clear HW2
              go_wp2_with fail
              refine (XZ.out w11 HW.out).mono ?_
              rintro _ w12 ⟨rfl, f12⟩
              have HW2 : Hid (Fr no w5 w12) := HW.out.and f12
              clear HW f12
              have HW : Hid _ := HW2
              clear HW2
              go_wp2_with fail
              refine (YZ.out w12 HW.out).mono ?_
              rintro _ w13 ⟨rfl, f13⟩
              have HW2 : Hid (Fr no w5 w13) := HW.out.and f13
              clear HW f13
              have HW : Hid _ := HW2
              clear HW2
              go_wp2_with fail
              refine (JZ.out w13 HW.out).mono ?_
              rintro _ w14 ⟨rfl, f14⟩
              have HW2 : Hid (Fr no w5 w14) := HW.out.and f14
              clear HW f14
              have HW : Hid _ := HW2
              clear HW2
              go_wp2_with fail
              go_ret
              exact ⟨rfl, HF5.out.and HW.out⟩
end Go.Proofs.Ytnineggppoipiaa
