/- Pushes and pops: what the statement asks. -/
import Derived.Test.YtpfkigoffllieaaGreatDoorVh0J
namespace Go.Proofs.YtpfkigoffllieaaGreatDoor
open Go.ChangeShapes Go.WideShapes Go.ChangeAt Go.RowKit
open H (ky Owns MapOf ix NewV)

theorem hgo_snoc (l : List Bool) (b : Bool) (s : Int × Bool) : hgo (l ++ [b]) s = hst (hgo l s) b := by simp [hgo, List.foldl_append]
theorem hgo_bound : ∀ (l : List Bool) (s : Int × Bool), s.1 - l.length ≤ (hgo l s).1 ∧ (hgo l s).1 ≤ s.1 + l.length
  | [], s => by simp [hgo]
  | b :: l, s => by
    have := hgo_bound l (hst s b)
    have h1 : s.1 - 1 ≤ (hst s b).1 ∧ (hst s b).1 ≤ s.1 + 1 := by
      cases b <;> simp [hst] <;> omega
    show _ ≤ (hgo l (hst s b)).1 ∧ (hgo l (hst s b)).1 ≤ _
    simp only [List.length_cons]
    omega

set_option maxRecDepth 100000 in
set_option maxHeartbeats 4000000 in
theorem heights_any (w : World) (T : Tb w) (R : Tr w) (hv : Value) (bs : List Bool) (hh : H.SlG elB w hv bs) :
    Calls Tryz.prog 3 #[hv] w fun e w' => e = .returned (.bool true) ∧ Fr no w w' := by
  have KN := known_any w T R
  have HK : Hid (∀ w', Fr no w w' → Tb w' ∧ Tr w') := fun w' hf => ⟨T.kept hf, Tr.kept R hf⟩
  have HH : Hid _ := hh
  obtain ⟨ad, cap, rfl, h1, h2, -, hit⟩ := hh
  clear T R hit
  generalize hn : bs.length = n at *
  have hm : n ≤ 9223372036854775807 := by unfold maxLen at h2; omega
  by_cases h30 : n ≤ 30
  · obtain ⟨res, AK, hres⟩ := ask_h bs (by omega)
    have HAK : Hid _ := AK
    have HRS : Hid _ := hres
    clear AK hres
    have h30i : ¬ (30 : Int) < (n : Int) := by omega
    go_enter Tryz.func3, Tryz.ntmps3
    go_wp2_with fail
    refine KN.mono ?_
    rintro e w1 ⟨rfl, f1⟩
    have HF1 : Hid _ := f1
    have HI : Hid (∀ (w' : World) (i : Nat) (b : Bool), Fr no w1 w' → bs[i]? = some b → ∃ bb off, ad = some ⟨bb, off, none⟩ ∧ w'.cell? ⟨bb, off + i, none⟩ = some (.bool b)) := fun w' i b hf hb => by
      obtain ⟨ad', cap', e, -, -, -, hit⟩ := HH.out
      simp only [Value.slice.injEq] at e
      obtain ⟨bb, off, e', hc⟩ := hit i b hb
      exact ⟨bb, off, e.1.trans e', hf.cell (f1.cell hc (fun f => f)) (fun f => f)⟩
    clear KN f1 HH
    go_wp2_with fail
    go_loopw [3, 4, 5, 6] (fun v z g i wr => ∃ (k : Nat) (o : Option Addr) (c : Nat), i = .int .i64 (k : Int) ∧ k ≤ n ∧ v = .slice o k c ∧ z = .int .i64 (hgo (bs.take k) (0, true)).1 ∧ g = .bool (hgo (bs.take k) (0, true)).2 ∧ Row w1 wr v ((bs.take k).map hIns)) (fun _ _ _ i _ => n - (intOf i).toNat)
    case atStart => exact ⟨0, none, 0, rfl, Nat.zero_le _, rfl, rfl, rfl, Row.nil w1⟩
    case round =>
      obtain ⟨k, o, c, rfl, hk, rfl, rfl, rfl, hR⟩ := hrel
      have hbd := hgo_bound (bs.take k) (0, true)
      rw [List.length_take, hn, Nat.min_eq_left hk] at hbd
      simp only at hbd
      by_cases hlt : k < n
      · have hki : (k : Int) < (n : Int) := by omega
        obtain ⟨b, hb⟩ : ∃ b, bs[k]? = some b := ⟨_, List.getElem?_eq_getElem (by omega)⟩
        obtain ⟨bb, off, rfl, hc⟩ := HI.out wr k b hR.2.2 hb
        have HS : Hid (hgo (bs.take (k + 1)) (0, true) = hst (hgo (bs.take k) (0, true)) b) := by
          show _ = _
          rw [take_next bs k b hb, hgo_snoc]
        have HM : Hid ((bs.take (k + 1)).map hIns = (bs.take k).map hIns ++ [hIns b]) := by
          show _ = _
          rw [take_next bs k b hb, List.map_append]
          rfl
        have HR : Hid (Row w1 wr (.slice o k c) ((bs.take k).map hIns)) := hR
        have HKL : Hid (((bs.take k).map hIns).length = k ∧ k < 30) := ⟨by simp; omega, by omega⟩
        clear hR hb
        generalize hgk : hgo (bs.take k) (0, true) = s at *
        obtain ⟨z, g⟩ := s
        simp only at hbd ⊢
        cases b with
        | true =>
          cases g with
          | false =>
            have hS1 : hst (z, false) true = (z + 1, false && decide (0 ≤ z + 1) && decide (z + 1 ≤ 3)) := by simp [hst]
            go_wp2_with (first | (at_builtin; refine wpList_apdG okIn _ rfl rfl _ _ rfl (.slice o k c) ((bs.take k).map hIns) rfl (HR.out.1.keep ((Fr.refl no wr).alloc _ _)) _ rfl [(3, 0)] (srcG_one okIn wr (3, 0)) (by simp) (by have := HKL.out; simp only [List.length_singleton]; omega) ?_; intro v' w3 o3 s3; obtain ⟨oo3, cc3, hv3⟩ := o3.form; have HO3 : Hid _ := HR.out.step ((Fr.refl no wr).alloc _ _) o3 s3; clear o3 s3; rw [List.length_append, HKL.out.1, List.length_singleton] at hv3; subst hv3) | fail)
            have HFIN : Hid (hgo (bs.take (k + 1)) (0, true) = (z + 1, false && decide (0 ≤ z + 1) && decide (z + 1 ≤ 3)) ∧ Row w1 w3 (.slice oo3 (k + 1) cc3) ((bs.take (k + 1)).map hIns)) := ⟨HS.out.trans hS1, by rw [HM.out]; exact HO3.out⟩
            clear HS HM HO3 HR
            go_wp2_with fail
            go_roundw
            case rel => exact ⟨k + 1, oo3, cc3, by go_num, by omega, rfl, by rw [HFIN.out.1], by rw [HFIN.out.1]; simp, HFIN.out.2⟩
            case measure => simp [intOf]; omega
          | true =>
            by_cases h0 : 0 ≤ z + 1
            · have hS1 : hst (z, true) true = (z + 1, true && decide (0 ≤ z + 1) && decide (z + 1 ≤ 3)) := by simp [hst]
              go_wp2_with (first | (at_builtin; refine wpList_apdG okIn _ rfl rfl _ _ rfl (.slice o k c) ((bs.take k).map hIns) rfl (HR.out.1.keep ((Fr.refl no wr).alloc _ _)) _ rfl [(3, 0)] (srcG_one okIn wr (3, 0)) (by simp) (by have := HKL.out; simp only [List.length_singleton]; omega) ?_; intro v' w3 o3 s3; obtain ⟨oo3, cc3, hv3⟩ := o3.form; have HO3 : Hid _ := HR.out.step ((Fr.refl no wr).alloc _ _) o3 s3; clear o3 s3; rw [List.length_append, HKL.out.1, List.length_singleton] at hv3; subst hv3) | fail)
              have HFIN : Hid (hgo (bs.take (k + 1)) (0, true) = (z + 1, true && decide (0 ≤ z + 1) && decide (z + 1 ≤ 3)) ∧ Row w1 w3 (.slice oo3 (k + 1) cc3) ((bs.take (k + 1)).map hIns)) := ⟨HS.out.trans hS1, by rw [HM.out]; exact HO3.out⟩
              clear HS HM HO3 HR
              go_wp2_with fail
              go_roundw
              case rel => exact ⟨k + 1, oo3, cc3, by go_num, by omega, rfl, by rw [HFIN.out.1], by rw [HFIN.out.1]; simp [h0], HFIN.out.2⟩
              case measure => simp [intOf]; omega
            · have hS1 : hst (z, true) true = (z + 1, true && decide (0 ≤ z + 1) && decide (z + 1 ≤ 3)) := by simp [hst]
              go_wp2_with (first | (at_builtin; refine wpList_apdG okIn _ rfl rfl _ _ rfl (.slice o k c) ((bs.take k).map hIns) rfl (HR.out.1.keep ((Fr.refl no wr).alloc _ _)) _ rfl [(3, 0)] (srcG_one okIn wr (3, 0)) (by simp) (by have := HKL.out; simp only [List.length_singleton]; omega) ?_; intro v' w3 o3 s3; obtain ⟨oo3, cc3, hv3⟩ := o3.form; have HO3 : Hid _ := HR.out.step ((Fr.refl no wr).alloc _ _) o3 s3; clear o3 s3; rw [List.length_append, HKL.out.1, List.length_singleton] at hv3; subst hv3) | fail)
              have HFIN : Hid (hgo (bs.take (k + 1)) (0, true) = (z + 1, true && decide (0 ≤ z + 1) && decide (z + 1 ≤ 3)) ∧ Row w1 w3 (.slice oo3 (k + 1) cc3) ((bs.take (k + 1)).map hIns)) := ⟨HS.out.trans hS1, by rw [HM.out]; exact HO3.out⟩
              clear HS HM HO3 HR
              go_wp2_with fail
              go_roundw
              case rel => exact ⟨k + 1, oo3, cc3, by go_num, by omega, rfl, by rw [HFIN.out.1], by rw [HFIN.out.1]; simp [h0], HFIN.out.2⟩
              case measure => simp [intOf]; omega
        | false =>
          cases g with
          | false =>
            have hS1 : hst (z, false) false = (z - 1, false && decide (0 ≤ z - 1) && decide (z - 1 ≤ 3)) := by simp [hst]
            go_wp2_with (first | (at_builtin; refine wpList_apdG okIn _ rfl rfl _ _ rfl (.slice o k c) ((bs.take k).map hIns) rfl (HR.out.1.keep ((Fr.refl no wr).alloc _ _)) _ rfl [(6, 0)] (srcG_one okIn wr (6, 0)) (by simp) (by have := HKL.out; simp only [List.length_singleton]; omega) ?_; intro v' w3 o3 s3; obtain ⟨oo3, cc3, hv3⟩ := o3.form; have HO3 : Hid _ := HR.out.step ((Fr.refl no wr).alloc _ _) o3 s3; clear o3 s3; rw [List.length_append, HKL.out.1, List.length_singleton] at hv3; subst hv3) | fail)
            have HFIN : Hid (hgo (bs.take (k + 1)) (0, true) = (z - 1, false && decide (0 ≤ z - 1) && decide (z - 1 ≤ 3)) ∧ Row w1 w3 (.slice oo3 (k + 1) cc3) ((bs.take (k + 1)).map hIns)) := ⟨HS.out.trans hS1, by rw [HM.out]; exact HO3.out⟩
            clear HS HM HO3 HR
            go_wp2_with fail
            go_roundw
            case rel => exact ⟨k + 1, oo3, cc3, by go_num, by omega, rfl, by rw [HFIN.out.1], by rw [HFIN.out.1]; simp, HFIN.out.2⟩
            case measure => simp [intOf]; omega
          | true =>
            by_cases h0 : 0 ≤ z - 1
            · have hS1 : hst (z, true) false = (z - 1, true && decide (0 ≤ z - 1) && decide (z - 1 ≤ 3)) := by simp [hst]
              go_wp2_with (first | (at_builtin; refine wpList_apdG okIn _ rfl rfl _ _ rfl (.slice o k c) ((bs.take k).map hIns) rfl (HR.out.1.keep ((Fr.refl no wr).alloc _ _)) _ rfl [(6, 0)] (srcG_one okIn wr (6, 0)) (by simp) (by have := HKL.out; simp only [List.length_singleton]; omega) ?_; intro v' w3 o3 s3; obtain ⟨oo3, cc3, hv3⟩ := o3.form; have HO3 : Hid _ := HR.out.step ((Fr.refl no wr).alloc _ _) o3 s3; clear o3 s3; rw [List.length_append, HKL.out.1, List.length_singleton] at hv3; subst hv3) | fail)
              have HFIN : Hid (hgo (bs.take (k + 1)) (0, true) = (z - 1, true && decide (0 ≤ z - 1) && decide (z - 1 ≤ 3)) ∧ Row w1 w3 (.slice oo3 (k + 1) cc3) ((bs.take (k + 1)).map hIns)) := ⟨HS.out.trans hS1, by rw [HM.out]; exact HO3.out⟩
              clear HS HM HO3 HR
              go_wp2_with fail
              go_roundw
              case rel => exact ⟨k + 1, oo3, cc3, by go_num, by omega, rfl, by rw [HFIN.out.1], by rw [HFIN.out.1]; simp; omega, HFIN.out.2⟩
              case measure => simp [intOf]; omega
            · have hS1 : hst (z, true) false = (z - 1, true && decide (0 ≤ z - 1) && decide (z - 1 ≤ 3)) := by simp [hst]
              go_wp2_with (first | (at_builtin; refine wpList_apdG okIn _ rfl rfl _ _ rfl (.slice o k c) ((bs.take k).map hIns) rfl (HR.out.1.keep ((Fr.refl no wr).alloc _ _)) _ rfl [(6, 0)] (srcG_one okIn wr (6, 0)) (by simp) (by have := HKL.out; simp only [List.length_singleton]; omega) ?_; intro v' w3 o3 s3; obtain ⟨oo3, cc3, hv3⟩ := o3.form; have HO3 : Hid _ := HR.out.step ((Fr.refl no wr).alloc _ _) o3 s3; clear o3 s3; rw [List.length_append, HKL.out.1, List.length_singleton] at hv3; subst hv3) | fail)
              have HFIN : Hid (hgo (bs.take (k + 1)) (0, true) = (z - 1, true && decide (0 ≤ z - 1) && decide (z - 1 ≤ 3)) ∧ Row w1 w3 (.slice oo3 (k + 1) cc3) ((bs.take (k + 1)).map hIns)) := ⟨HS.out.trans hS1, by rw [HM.out]; exact HO3.out⟩
              clear HS HM HO3 HR
              go_wp2_with fail
              go_roundw
              case rel => exact ⟨k + 1, oo3, cc3, by go_num, by omega, rfl, by rw [HFIN.out.1], by rw [HFIN.out.1]; simp; omega, HFIN.out.2⟩
              case measure => simp [intOf]; omega
      · have hkn : k = n := by omega
        subst hkn
        have hki : ¬ (k : Int) < (k : Int) := by omega
        have htk : bs.take k = bs := by rw [← hn, List.take_length]
        rw [htk] at hR ⊢
        have HR : Hid (Row w1 wr (.slice o k c) (bs.map hIns)) := hR
        have HKL : Hid ((bs.map hIns).length = k ∧ k ≤ 30) := ⟨by simp; omega, h30⟩
        clear hR hbd htk
        generalize hgk : hgo bs (0, true) = s at *
        obtain ⟨z, g⟩ := s
        simp only at HRS ⊢
        cases g with
        | true =>
          go_wp2_with (first | (at_builtin; refine wpList_apdG okIn _ rfl rfl _ _ rfl (.slice o k c) (bs.map hIns) rfl (HR.out.1.keep ((Fr.refl no wr).alloc _ _)) _ rfl [(33, 0)] (srcG_one okIn wr (33, 0)) (by simp) (by have := HKL.out; simp only [List.length_singleton]; omega) ?_; intro v' w3 o3 s3; obtain ⟨oo3, cc3, hv3⟩ := o3.form; have HO3 : Hid (Row w1 w3 v' (hcode bs)) := HR.out.step ((Fr.refl no wr).alloc _ _) o3 s3; clear o3 s3; rw [List.length_append, HKL.out.1, List.length_singleton] at hv3; subst hv3) | fail)
          have F3 : Fr no w w3 := HF1.out.new HO3.out.2.2 (fun _ _ f => f)
          have AC := accepted_any w3 (HK.out w3 F3).1 (HK.out w3 F3).2 oo3 none (k + 1) cc3 0 0 (hcode bs) [] (HO3.out.1.sl okIn) (SlG.nil _ _) _ res HAK.out
          rw [HRS.out] at AC
          have HF3 : Hid _ := F3
          clear F3 HO3 HR
          refine AC.mono ?_
          rintro e w4 ⟨rfl, f4⟩
          clear AC
          go_wp2_with fail
          go_ret
          exact ⟨by first | rfl | simp, HF3.out.new f4 (fun _ _ f => f)⟩
        | false =>
          go_wp2_with (first | (at_builtin; refine wpList_apdG okIn _ rfl rfl _ _ rfl (.slice o k c) (bs.map hIns) rfl (HR.out.1.keep ((Fr.refl no wr).alloc _ _)) _ rfl [(33, 0)] (srcG_one okIn wr (33, 0)) (by simp) (by have := HKL.out; simp only [List.length_singleton]; omega) ?_; intro v' w3 o3 s3; obtain ⟨oo3, cc3, hv3⟩ := o3.form; have HO3 : Hid (Row w1 w3 v' (hcode bs)) := HR.out.step ((Fr.refl no wr).alloc _ _) o3 s3; clear o3 s3; rw [List.length_append, HKL.out.1, List.length_singleton] at hv3; subst hv3) | fail)
          have F3 : Fr no w w3 := HF1.out.new HO3.out.2.2 (fun _ _ f => f)
          have AC := accepted_any w3 (HK.out w3 F3).1 (HK.out w3 F3).2 oo3 none (k + 1) cc3 0 0 (hcode bs) [] (HO3.out.1.sl okIn) (SlG.nil _ _) _ res HAK.out
          rw [HRS.out] at AC
          have HF3 : Hid _ := F3
          clear F3 HO3 HR
          refine AC.mono ?_
          rintro e w4 ⟨rfl, f4⟩
          clear AC
          go_wp2_with fail
          go_ret
          exact ⟨by first | rfl | simp, HF3.out.new f4 (fun _ _ f => f)⟩
  · have h30i : (30 : Int) < (n : Int) := by omega
    clear HH HK
    go_enter Tryz.func3, Tryz.ntmps3
    go_wp2_with fail
    refine KN.mono ?_
    rintro e w1 ⟨rfl, f1⟩
    go_wp2_with fail
    go_ret
    exact ⟨rfl, f1⟩
end Go.Proofs.YtpfkigoffllieaaGreatDoor
