/- Where fields lie along a chain. -/
import Derived.Test.YtcbpmahekgkjlaaGreatDoorCaJ
namespace Go.Proofs.YtcbpmahekgkjlaaGreatDoor
open Go.ChangeShapes Go.WideShapes Go.ChangeAt Go.RowKit
open H (ix NewV)

theorem elB_nil (w : World) : H.SlG elB w (.slice none 0 0) [] := ⟨none, 0, rfl, Nat.zero_le _, Nat.zero_le _, fun _ => ⟨rfl, rfl⟩, fun i x hx => by simp at hx⟩

theorem wd_bd (kd : Nat → Nat) (k : Nat) : 0 ≤ wd kd k ∧ wd kd k ≤ 2 * (k : Int) := by
  induction k with
  | zero => exact ⟨Int.le_refl 0, Int.le_refl 0⟩
  | succ k ih =>
    have h : 0 ≤ H.words ⟨(kd k : Int), e0⟩ ∧ H.words ⟨(kd k : Int), e0⟩ ≤ 2 := by
      unfold H.words
      split
      · exact ⟨by decide, by decide⟩
      · split
        · exact ⟨by decide, by decide⟩
        · exact ⟨by decide, by decide⟩
    show 0 ≤ wd kd k + H.words ⟨(kd k : Int), e0⟩ ∧ wd kd k + H.words ⟨(kd k : Int), e0⟩ ≤ _
    omega

set_option maxRecDepth 100000 in
set_option maxHeartbeats 4000000 in
theorem slots_any (w : World) (T : Tb w) (Rt : Tr w) (kv : Value) (kinds : List Nat) (hk : H.SlG elU w kv kinds) (h256 : ∀ x ∈ kinds, x < 256) :
    Calls Tryz.prog 3 #[kv] w fun e w' => e = .returned (.bool true) ∧ Fr no w w' := by
  have HT : Hid (Tb w ∧ Tr w) := ⟨T, Rt⟩
  have KN := known_any w T Rt
  clear T Rt
  obtain ⟨ka, kc, rfl, hk1, hk2, h0, hk3⟩ := hk
  have HK : Hid (∀ (i : Nat) (x : Nat), kinds[i]? = some x → ∃ b off, ka = some ⟨b, off, none⟩ ∧ w.cell? ⟨b, off + i, none⟩ = some (elU.f x)) := hk3
  have HS : Hid (H.SlG elU w (.slice ka kinds.length kc) kinds) := ⟨ka, kc, rfl, hk1, hk2, h0, hk3⟩
  have H256 : Hid _ := h256
  clear hk3 h0 h256
  generalize hn : kinds.length = n at *
  by_cases h12 : 12 < n
  · have h12' : (12 : Int) < (n : Int) := by omega
    go_enter Tryz.func3, Tryz.ntmps3
    go_wp2_with fail
    refine KN.mono ?_
    rintro e w1 ⟨rfl, f1⟩
    go_wp2_with fail
    go_ret
    exact ⟨rfl, f1⟩
  · have h12' : ¬ ((12 : Int) < (n : Int)) := by omega
    go_enter Tryz.func3, Tryz.ntmps3
    go_wp2_with fail
    refine KN.mono ?_
    rintro e w1 ⟨rfl, f1⟩
    have CH := chain_any w1 _ _ kinds [] (HS.out.keep f1) (elB_nil w1) (by omega) H256.out
    rw [hn] at CH
    have HF1 : Hid _ := f1
    clear f1
    go_wp2_with fail
    refine CH.mono ?_
    rintro e w3 ⟨v, wc, ks, bs, rfl, R, fc⟩
    have g3 : Fr no w w3 := HF1.out.new (fc.new R.fr (fun _ _ f => f)) (fun _ _ f => f)
    have LK := chain_links (HT.out.1.kept g3) (HT.out.2.kept g3) R (by omega) (fun i => by omega)
    obtain ⟨vo, vc, rfl⟩ := R.own.form
    clear CH R fc
    go_wp2_with fail
    refine LK.mono ?_
    rintro e w4 ⟨p, rfl, hP, hsm, f4⟩
    have HG : Hid (Fr no w w4) := g3.new f4 (fun _ _ f => f)
    generalize hkd : (fun i => kinds.getD i 0 % 3 + 1) = kd at *
    generalize hhs : (fun i => ([] : List Bool).getD i false) = hs at *
    have HP : Hid (∀ w', Fr no w4 w' → Prg w' p (allC (chain kd hs n)) (newC (chain kd hs n)).2.2) := fun w' hf => hP.keep hf
    have HSM : Hid _ := hsm
    have HKD : Hid (∀ i x, kinds[i]? = some x → kd i = x % 3 + 1) := fun i x hx => by rw [← hkd]; simp only [List.getD_eq_getElem?_getD, hx, Option.getD_some]
    clear LK hP hsm f4 g3 hkd hhs
    go_wp2_with fail
    go_loopw [6, 5] (fun i s wr => ∃ k : Nat, i = .int .i64 (k : Int) ∧ k ≤ n ∧ s = .int .i64 (wd kd k) ∧ Fr no w4 wr) (fun i _ _ => n - (intOf i).toNat)
    case atStart => exact ⟨0, rfl, Nat.zero_le _, rfl, Fr.refl _ _⟩
    case round =>
      obtain ⟨k, rfl, hkn, rfl, fr⟩ := hrel
      by_cases hlt : k < n
      · have hki : (k : Int) < (n : Int) := by omega
        have hsl := fun w' => slice_lt k (by omega) w'
        have hsl2 := fun w' => slice_lt (n - 1) (by omega) w'
        rw [show ((n - 1 : Nat) : Int) = (n : Int) - 1 by omega, show (n : Int) - 1 + 1 = (n : Int) by omega] at hsl2
        have hfn := fnm_eq k
        obtain ⟨x, hx⟩ : ∃ x, kinds[k]? = some x := ⟨_, List.getElem?_eq_getElem (by omega)⟩
        obtain ⟨kb, koff, rfl, hkx⟩ := HK.out k x hx
        have hx6 := H256.out x (List.mem_of_getElem? hx)
        have HZ : Hid (∀ w', Fr no w4 w' → w'.cell? ⟨kb, koff + k, none⟩ = some (.int .u8 (x : Int))) := fun w' hf => (HG.out.new hf (fun _ _ f => f)).cell hkx (fun f => f)
        have HF : Hid (∀ (w' : World) (i : Nat), Fr no w4 w' → k ≤ i → i < n → Calls Tryz.prog 9 #[.pointer (some ⟨p, 0, none⟩), .string (lt i), .string (fnm k)] w' fun e w2 => e = .returned (.tuple #[slV (slt kd k), .bool true]) ∧ Fr no w' w2) := fun w' i hf hki hin => by
          have := field_any w' p _ _ (HP.out w' hf) (lt i) (fnm k) (by show (1 : Nat) ≤ _; decide) (by show (2 : Nat) ≤ _; decide)
          rw [chain_field (by omega) hin hki] at this
          refine this.mono ?_
          rintro e w2 ⟨t, rfl, h1, -, h3⟩
          rw [h1 _ rfl]
          exact ⟨rfl, h3⟩
        have HA : Hid (∀ w', Fr no w4 w' → Calls Tryz.prog 9 #[.pointer (some ⟨p, 0, none⟩), .string sMain, .string (fnm k)] w' fun e w2 => e = .returned (.tuple #[slV zSlt, .bool false]) ∧ Fr no w' w2) := fun w' hf => by
          have := field_any w' p _ _ (HP.out w' hf) sMain (fnm k) (by show (4 : Nat) ≤ _; decide) (by show (2 : Nat) ≤ _; decide)
          rw [chain_above (by omega) hlt] at this
          refine this.mono ?_
          rintro e w2 ⟨t, rfl, -, h2, h3⟩
          rw [h2 rfl]
          exact ⟨rfl, h3⟩
        have HL : Hid (∀ w', Fr no w4 w' → Calls Tryz.prog 10 #[.pointer (some ⟨p, 0, none⟩), .string (lt k)] w' fun e w2 => ∃ (nm : ByteArray) (x y z : Sv), e = .returned (.tuple #[.agg #[.string nm, .slice x.a x.n x.c, .slice y.a y.n y.c, .int .i64 (wd kd (k + 1)), .slice z.a z.n z.c], .bool true]) ∧ Fr no w' w2) := fun w' hf => by
          have := layout_any w' p _ _ (HP.out w' hf) HSM.out (lt k) (by show (1 : Nat) ≤ _; decide) (k + 3) (chain_ix' (by omega) hlt) (chain_slots (by omega) hlt)
          rw [chain_words (by omega) hlt] at this
          exact this
        have hwd : wd kd (k + 1) = wd kd k + if x % 3 = 1 then 2 else 1 := by
          show wd kd k + H.words ⟨(kd k : Int), e0⟩ = _
          rw [HKD.out k x hx]
          unfold H.words
          have h3 : x % 3 = 0 ∨ x % 3 = 1 ∨ x % 3 = 2 := by omega
          rcases h3 with h | h | h <;> simp [h]
        have F1 := HF.out wr k fr (Nat.le_refl _) hlt
        have hb0 := wd_bd kd k
        have HW1 : Hid _ := hwd
        clear hkx hwd
        unfold slV slt fdOf e0 at F1 HF
        generalize hA1 : wd kd (k + 1) = A1 at *
        generalize hA0 : wd kd k = A0 at *
        have HA1 : Hid _ := hA1
        clear hA1 hA0
        go_wp2_with fail
        refine F1.mono ?_
        rintro e w5 ⟨rfl, f5⟩
        have g5 := fr.new f5 (fun _ _ f => f)
        generalize hW5 : w5.alloc (.cells #[.string (lt k), .string (fnm k), .int .i64 (kd k : Int), .string ⟨#[]⟩, .bool false, .int .i64 A0] 35) = W5
        have G5 : Fr no w5 W5 := by rw [← hW5]; exact (Fr.refl no w5).alloc _ _
        have E5 : W5.heap[w5.heap.size]? = some (.cells #[.string (lt k), .string (fnm k), .int .i64 (kd k : Int), .string ⟨#[]⟩, .bool false, .int .i64 A0] 35 (0, 0)) := by rw [← hW5]; exact heap_alloc_new w5 _
        have F2 := HF.out W5 (n - 1) (g5.new G5 (fun _ _ f => f)) (by omega) (by omega)
        have HG5 : Hid _ := g5.new G5 (fun _ _ f => f)
        clear F1 f5 g5 G5
        go_wp2_with fail
        refine F2.mono ?_
        rintro e w6 ⟨rfl, f6⟩
        have g6 := HG5.out.new f6 (fun _ _ f => f)
        generalize hW6 : w6.alloc (.cells #[.string (lt k), .string (fnm k), .int .i64 (kd k : Int), .string ⟨#[]⟩, .bool false, .int .i64 A0] 35) = W6
        have G6 : Fr no w6 W6 := by rw [← hW6]; exact (Fr.refl no w6).alloc _ _
        have E6 : W6.heap[w6.heap.size]? = some (.cells #[.string (lt k), .string (fnm k), .int .i64 (kd k : Int), .string ⟨#[]⟩, .bool false, .int .i64 A0] 35 (0, 0)) := by rw [← hW6]; exact heap_alloc_new w6 _
        have E6' := G6.heap (f6.heap E5 (fun f => f)) (fun f => f)
        have y0 := cell_at (o := 0) E6
        have y1 := cell_at (o := 1) E6
        have y2 := cell_at (o := 2) E6
        have y3 := cell_at (o := 3) E6
        have y4 := cell_at (o := 4) E6
        have y5 := cell_at (o := 5) E6
        have x0 := cell_at (o := 0) E6'
        have x1 := cell_at (o := 1) E6'
        have x2 := cell_at (o := 2) E6'
        have x3 := cell_at (o := 3) E6'
        have x4 := cell_at (o := 4) E6'
        have x5 := cell_at (o := 5) E6'
        simp only [List.getElem?_toArray, List.getElem?_cons_zero, List.getElem?_cons_succ] at y0 y1 y2 y3 y4 y5 x0 x1 x2 x3 x4 x5
        have g7 := g6.new G6 (fun _ _ f => f)
        have zk := HZ.out W6 g7
        have LA := HL.out W6 g7
        have HG7 : Hid _ := g7
        clear F2 f6 g6 G6 E6 E6' E5 hW5 g7
        have hw1 := HW1.out
        by_cases h1 : x % 3 = 1
        · have h1' : (x : Int) % 3 = 1 := by omega
          rw [if_pos h1] at hw1
          obtain rfl : A1 = A0 + 1 + 1 := by omega
          clear hw1
          go_wp2_with fail
          refine LA.mono ?_
          rintro e w7 ⟨nm, xv, yv, zv, rfl, f7⟩
          have g7 := HG7.out.new f7 (fun _ _ f => f)
          generalize hW7 : w7.alloc (.cells #[.string nm, .slice xv.a xv.n xv.c, .slice yv.a yv.n yv.c, .int .i64 (A0 + 1 + 1), .slice zv.a zv.n zv.c] 42) = W7
          have G7 : Fr no w7 W7 := by rw [← hW7]; exact (Fr.refl no w7).alloc _ _
          have E7 : W7.heap[w7.heap.size]? = some (.cells #[.string nm, .slice xv.a xv.n xv.c, .slice yv.a yv.n yv.c, .int .i64 (A0 + 1 + 1), .slice zv.a zv.n zv.c] 42 (0, 0)) := by rw [← hW7]; exact heap_alloc_new w7 _
          have g8 := g7.new G7 (fun _ _ f => f)
          have AB := HA.out W7 g8
          have HE7 : Hid (_ ∧ _) := ⟨E7, g8⟩
          unfold sMain at AB
          clear LA G7 E7 g8 g7 f7
          go_wp2_with fail
          refine AB.mono ?_
          rintro e w8 ⟨rfl, f8⟩
          have g9 := HE7.out.2.new f8 (fun _ _ f => f)
          have G9 : Fr no w8 (w8.alloc (.cells #[.string ⟨#[]⟩, .string ⟨#[]⟩, .int .i64 0, .string ⟨#[]⟩, .bool false, .int .i64 0] 35)) := (Fr.refl no w8).alloc _ _
          have z3 := cell_at (o := 3) (G9.heap (f8.heap HE7.out.1 (fun f => f)) (fun f => f))
          simp only [List.getElem?_toArray, List.getElem?_cons_zero, List.getElem?_cons_succ] at z3
          have HG9 : Hid _ := g9.new G9 (fun _ _ f => f)
          unfold slV zSlt
          clear AB f8 g9 G9
          go_wp2_with fail
          go_roundw
          case rel => exact ⟨k + 1, by go_num, by omega, by rw [HA1.out], HG9.out⟩
          case measure => simp [intOf]; omega
        · have h1' : ¬ (x : Int) % 3 = 1 := by omega
          have h2' : ¬ (x : Int) % 3 + 1 = 2 := by omega
          rw [if_neg h1] at hw1
          subst hw1
          go_wp2_with fail
          refine LA.mono ?_
          rintro e w7 ⟨nm, xv, yv, zv, rfl, f7⟩
          have g7 := HG7.out.new f7 (fun _ _ f => f)
          generalize hW7 : w7.alloc (.cells #[.string nm, .slice xv.a xv.n xv.c, .slice yv.a yv.n yv.c, .int .i64 (A0 + 1), .slice zv.a zv.n zv.c] 42) = W7
          have G7 : Fr no w7 W7 := by rw [← hW7]; exact (Fr.refl no w7).alloc _ _
          have E7 : W7.heap[w7.heap.size]? = some (.cells #[.string nm, .slice xv.a xv.n xv.c, .slice yv.a yv.n yv.c, .int .i64 (A0 + 1), .slice zv.a zv.n zv.c] 42 (0, 0)) := by rw [← hW7]; exact heap_alloc_new w7 _
          have g8 := g7.new G7 (fun _ _ f => f)
          have AB := HA.out W7 g8
          have HE7 : Hid (_ ∧ _) := ⟨E7, g8⟩
          unfold sMain at AB
          clear LA G7 E7 g8 g7 f7
          go_wp2_with fail
          refine AB.mono ?_
          rintro e w8 ⟨rfl, f8⟩
          have g9 := HE7.out.2.new f8 (fun _ _ f => f)
          have G9 : Fr no w8 (w8.alloc (.cells #[.string ⟨#[]⟩, .string ⟨#[]⟩, .int .i64 0, .string ⟨#[]⟩, .bool false, .int .i64 0] 35)) := (Fr.refl no w8).alloc _ _
          have z3 := cell_at (o := 3) (G9.heap (f8.heap HE7.out.1 (fun f => f)) (fun f => f))
          simp only [List.getElem?_toArray, List.getElem?_cons_zero, List.getElem?_cons_succ] at z3
          have HG9 : Hid _ := g9.new G9 (fun _ _ f => f)
          unfold slV zSlt
          clear AB f8 g9 G9
          go_wp2_with fail
          go_roundw
          case rel => exact ⟨k + 1, by go_num, by omega, by rw [HA1.out], HG9.out⟩
          case measure => simp [intOf]; omega
      · have hki : ¬ (k : Int) < (n : Int) := by omega
        go_wp2_with fail
        go_ret
        exact ⟨rfl, HG.out.new fr (fun _ _ f => f)⟩
end Go.Proofs.YtcbpmahekgkjlaaGreatDoor
