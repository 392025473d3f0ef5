/- Held of the document, walked. -/
import Derived.Test.YtkkpimpmhnnbjaaDk
namespace Go.Proofs.Ytkkpimpmhnnbjaa
open Go.ChangeShapes Go.WideShapes Go.ChangeAt Go.RowKit

set_option maxRecDepth 100000 in
set_option maxHeartbeats 1000000 in
theorem dHeld_any {c : Nat} {w : World} {q : Nat} {T : List (Int × Lk)} (h : DB c w q T) (t : Int) (hl : T.length ≤ 2000) :
    Calls Try.prog 25 #[.pointer (some ⟨q, 0, none⟩), .int .i64 t] w fun e w' => ∃ v, e = .returned v ∧ OwnG elI w' v (heldF t T) ∧ Fr no w w' := by
  obtain ⟨D, hD, rfl⟩ := h
  rw [told_length] at hl
  obtain ⟨o, cap0, k1, -, -, hg⟩ := hD.get
  have HG : Hid (∀ i d, D[i]? = some d → ∃ b r, o = some ⟨b, r, none⟩ ∧ Dx c w q D i d b (r + i * 6)) := hg
  have HK1 : Hid (w.cell? ⟨q, 0, none⟩ = some (.slice o D.length cap0)) := k1
  clear hg hD k1
  generalize hn : D.length = n at *
  go_enter Try.func25, Try.ntmps25
  go_wp2_with fail
  go_loopw [5, 6] (fun lv iv wr => ∃ k : Nat, iv = .int .i64 (k : Int) ∧ k ≤ n ∧ OwnG elI wr lv (heldF t ((told D).take k)) ∧ NewV w lv ∧ Fr no w wr) (fun _ iv _ => n - (intOf iv).toNat)
  case atStart => exact ⟨0, rfl, Nat.zero_le _, OwnG.nil _ _, NewV.nil _, Fr.refl _ _⟩
  case round =>
    obtain ⟨k, rfl, hk, how, hnv, hfr⟩ := hrel
    have k1 := hfr.cell HK1.out (fun f => f)
    by_cases hlt : k < n
    · obtain ⟨d, hx⟩ : ∃ x, D[k]? = some x := ⟨_, List.getElem?_eq_getElem (by omega)⟩
      obtain ⟨b, r, rfl, hdx⟩ := HG.out k d hx
      obtain ⟨c0, c1, -⟩ := hdx.cells
      have C01 : Hid (w.cell? ⟨b, r + k * 6, none⟩ = some (.int .i64 d.at_)) := c0
      have c0r := hfr.cell c0 (fun f => f)
      have c1r := hfr.cell c1 (fun f => f)
      have hx' : (told D)[k]? = some (d.at_, d.x) := by unfold told; rw [List.getElem?_map, hx]; rfl
      have hlt' : (k : Int) < (n : Int) := by omega
      by_cases hs : t < 1 ∨ d.x.owner ≠ t
      · have HN : Hid (OwnG elI wr u5 (heldF t ((told D).take (k + 1))) ∧ NewV w u5 ∧ Fr no w wr) := ⟨by rw [heldF_skip hx' hs]; exact how, hnv, hfr⟩
        clear how hnv hfr hx hx' hdx c0 c1
        generalize d.x.owner = ow at *
        by_cases h1 : t < 1
        · go_wp2_with fail
          go_roundw
          case rel => exact ⟨k + 1, by go_num, by omega, HN.out⟩
          case measure => simp [intOf]; omega
        · have h2 : (ow != t) = true := by simp; omega
          clear hs
          go_wp2_with fail
          go_roundw
          case rel => exact ⟨k + 1, by go_num, by omega, HN.out⟩
          case measure => simp [intOf]; omega
      · have HT : Hid (heldF t ((told D).take (k + 1)) = insI d.at_ (heldF t ((told D).take k))) := heldF_take hx' hs
        have hlen : (heldF t ((told D).take k)).length ≤ 2000 := by
          have := heldF_len t ((told D).take k) []
          simp only [List.length_nil, List.length_take, told_length] at this
          unfold heldF
          omega
        have h1 : ¬ t < 1 := by omega
        have h2 : (d.x.owner != t) = false := by simp; omega
        obtain ⟨o5, cap5, hv5⟩ := how.form
        subst hv5
        have HW : Hid (OwnG elI wr (.slice o5 (heldF t ((told D).take k)).length cap5) (heldF t ((told D).take k)) ∧ NewV w (.slice o5 (heldF t ((told D).take k)).length cap5) ∧ Fr no w wr) := ⟨how, hnv, hfr⟩
        have HRD : Hid (RdG elI wr (.slice o5 (heldF t ((told D).take k)).length cap5) (heldF t ((told D).take k))) := how.rd elI_ok
        clear how hnv hfr hx hx' hdx c0 c1 hs
        generalize heldF t ((told D).take k) = l at *
        generalize d.x.owner = ow at *
        generalize hat : d.at_ = a at *
        have hki := kI_le a l
        generalize hln : l.length = ln at *
        go_upto_block 2 with fail
        go_cut [7] (fun kv wc => kv = .int .i64 ((kI a l : Nat) : Int) ∧ ∃ m, wc = wr.drewN m)
        case first =>
          go_wp2_with fail
          go_loopw [7] (fun kv wz => ∃ (j m : Nat), kv = .int .i64 (j : Int) ∧ j ≤ kI a l ∧ wz = wr.drewN m) (fun kv _ => kI a l + 1 - (intOf kv).toNat)
          case atStart => exact ⟨0, 0, rfl, Nat.zero_le _, rfl⟩
          case round =>
            obtain ⟨j, m, rfl, hj, hwz⟩ := hrel
            subst hwz
            by_cases hjk : j < kI a l
            · obtain ⟨x, hx, hxa⟩ := kI_lt a l j hjk
              obtain ⟨b1, o1, hov, hcx⟩ := HRD.out.at1 (u := .int .i64 x) rfl rfl hx
              subst hov
              have hj1 : (j : Int) < (ln : Int) := by omega
              have hj0 : (0 : Int) ≤ (j : Int) := by omega
              clear hx HRD HW
              go_upto_region 7 with fail
              go_quiet (fail)
              go_wp2_with fail
              go_roundw
              case rel => exact ⟨j + 1, _, by go_num, by omega, rfl⟩
              case measure => simp [intOf]; omega
            · obtain rfl : j = kI a l := by omega
              by_cases hjl : kI a l < ln
              · obtain ⟨x, hx, hxa⟩ := kI_at a l (by omega)
                obtain ⟨b1, o1, hov, hcx⟩ := HRD.out.at1 (u := .int .i64 x) rfl rfl hx
                subst hov
                have hj1 : ((kI a l : Nat) : Int) < (ln : Int) := by omega
                have hj0 : (0 : Int) ≤ ((kI a l : Nat) : Int) := by omega
                clear hx HRD HW
                go_upto_region 7 with fail
                go_quiet (fail)
                go_wp2_with fail
                go_meet
                exact ⟨rfl, _, rfl⟩
              · have hj1 : ¬ (((kI a l : Nat) : Int) < (ln : Int)) := by omega
                clear HRD HW
                go_upto_region 7 with fail
                go_quiet (fail)
                go_wp2_with fail
                go_meet
                exact ⟨rfl, _, rfl⟩
        case rest =>
          obtain ⟨rfl, m, hwc⟩ := hcut
          have fm : Fr no wr (wr.drewN m) := (Fr.refl no wr).drewN m
          have HW2 : Hid (OwnG elI (wr.drewN m) (.slice o5 ln cap5) l ∧ NewV w (.slice o5 ln cap5) ∧ Fr no w (wr.drewN m)) := ⟨HW.out.1.keep fm, HW.out.2.1, HW.out.2.2.and fm⟩
          rw [← hwc] at HW2
          clear HW HRD k1 c0r c1r fm hwc
          have HO1 : Hid (OwnG elI (wc.alloc (.cells (elI.f 0).toArray elI.e)) (.slice o5 ln cap5) l) := HW2.out.1.keep ((Fr.refl no wc).alloc _ _)
          have HSR : Hid (Src Try.prog elI.n elI.t (.slice (some ⟨wc.heap.size, 0, none⟩) 1 1) [(0 : Int)].length (cg elI [0]) (wc.alloc (.cells (elI.f 0).toArray elI.e))) := srcG_one elI_ok wc 0
          have HSL : Hid (l.length + [(0 : Int)].length ≤ 1000000) := by simp only [Hid, List.length_cons, List.length_nil]; omega
          have HHL : Hid (l.length = ln) := hln
          have LEM : Hid (∀ v' w3, OwnG elI w3 v' (l ++ [0]) → Sp (.slice o5 ln cap5) (wc.alloc (.cells (elI.f 0).toArray elI.e)) v' w3 →
              ∃ g o cap dv sv w5, v' = .slice (some ⟨g, o, none⟩) (ln + 1) cap ∧ (∀ w1, (Instr.slice 42 (.slice (some ⟨g, o, none⟩) (ln + 1) cap) (some (.int .i64 (((kI a l : Nat) : Int) + 1))) none none).run Try.prog w1 = .ok dv w1) ∧ (∀ w1, (Instr.sliceAt 42 (.slice (some ⟨g, o, none⟩) (ln + 1) cap) (some (.int .i64 (((kI a l : Nat) : Int) + 1))) none none).run Try.prog w1 = .ok dv w1) ∧ (∀ w1, (Instr.slice 42 (.slice (some ⟨g, o, none⟩) (ln + 1) cap) (some (.int .i64 ((kI a l : Nat) : Int))) none none).run Try.prog w1 = .ok sv w1) ∧ (∀ w1, (Instr.sliceAt 42 (.slice (some ⟨g, o, none⟩) (ln + 1) cap) (some (.int .i64 ((kI a l : Nat) : Int))) none none).run Try.prog w1 = .ok sv w1) ∧
                (∃ m : Int, ∀ ty, (Builtin.copy_ #[42, 42] ty #[dv, sv]).run Try.prog w3.drew = .ok (.int .i64 m) w5) ∧ (∃ y, w5.cell? ⟨g, o + kI a l, none⟩ = some (.int .i64 y)) ∧ w5.frozen? ⟨g, o + kI a l, none⟩ = false ∧ w5.cell? ⟨q, 0, none⟩ = some (.slice (some ⟨b, r, none⟩) n cap0) ∧ w5.cell? ⟨b, r + k * 6, none⟩ = some (.int .i64 a) ∧
                Hid (OwnG elI (w5.setCell ⟨g, o + kI a l, none⟩ (.int .i64 a)) (.slice (some ⟨g, o, none⟩) (ln + 1) cap) (insI a l) ∧ NewV w (.slice (some ⟨g, o, none⟩) (ln + 1) cap) ∧ Fr no w (w5.setCell ⟨g, o + kI a l, none⟩ (.int .i64 a)))) := by
            intro v' w3 o3 s3
            have n3 := HW2.out.2.1.step (HW2.out.2.2.alloc _ _) s3
            obtain ⟨g, o, cap, dv, sv, w5, hv, e1, e2, e3, e4, e5, e6, e7, e8, e9⟩ := held_ins (a := a) o3 n3.1 n3.2
            rw [HHL.out] at hv
            subst hv
            exact ⟨g, o, cap, dv, sv, w5, rfl, e1, e2, e3, e4, e5, e6, e7, e8.cell HK1.out (fun f => f), e8.cell C01.out (fun f => f), e9.out.1, n3.1, e9.out.2⟩
          have hwk : IntKind.i64.wrap (((kI a l : Nat) : Int) + 1) = ((kI a l : Nat) : Int) + 1 := by rw [IntKind.wrap_i64]; omega
          have hkl : ((kI a l : Nat) : Int) < ((ln : Int) + 1) := by omega
          have hkl' : ((kI a l : Nat) : Int) < ((ln + 1 : Nat) : Int) := by omega
          have hk0 : (0 : Int) ≤ ((kI a l : Nat) : Int) := by omega
          clear HW2 HHL
          go_upto_region 10 with (at_builtin; refine wpList_apdG elI_ok _ rfl rfl _ _ rfl (.slice o5 ln cap5) l rfl HO1.out _ rfl [0] HSR.out HSL.out ?_; intro v' w3 o3 s3; obtain ⟨g, o, cap, dv, sv, w5, rfl, e1, e2, e3, e4, ⟨mm, e5⟩, ⟨y, e6⟩, e7, e8, e9, T5⟩ := LEM.out v' w3 o3 s3; clear o3 s3)
          clear HO1 HSR HSL LEM
          go_region
          all_goals
            go_wp2_with fail
            go_roundw
            case rel => exact ⟨k + 1, by go_num, by omega, by rw [HT.out]; exact T5.out.1, T5.out.2⟩
            case measure => simp [intOf]; omega
    · have HZ : Hid (OwnG elI wr u5 (heldF t (told D)) ∧ Fr no w wr) := by
        rw [List.take_of_length_le (by rw [told_length]; omega)] at how
        exact ⟨how, hfr⟩
      have hlt' : ¬ ((k : Int) < (n : Int)) := by omega
      clear how hnv hfr
      go_wp2_with fail
      go_ret
      exact ⟨_, rfl, HZ.out⟩
end Go.Proofs.Ytkkpimpmhnnbjaa
