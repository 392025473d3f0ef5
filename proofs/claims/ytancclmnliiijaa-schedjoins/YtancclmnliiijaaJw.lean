/- SchedJoins, walked. -/
import Derived.Test.YtancclmnliiijaaJp
import Derived.Deep.CutBlock
namespace Go.Proofs.Ytancclmnliiijaa
open Go.ChangeShapes Go.WideShapes Go.ChangeAt Go.RowKit

theorem Js.row {α : Type} {K : El α} {W w w' : World} {p n : Nat} {T : List (Int × Int)} {v v' : Value} {l : List α} (h : Js W w p n T) (ho : OwnG K w v l) (hn : NewV W v) (s : Sp v w v' w') (hk : K.e ≠ 63 := by decide) : Js W w' p n T :=
  ⟨h.ps.kept s.1 (fun e => by
    obtain ⟨cur, hc⟩ := ho.tag e
    rw [h.ps.cells] at hc
    simp at hc
    exact hk hc.2.symm), h.le, h.fr.new s.1 (fun i hi e => by have := hn i e; omega)⟩

set_option maxRecDepth 100000 in
set_option maxHeartbeats 4000000 in
theorem joins_any (w : World) (a b : Nat) (ha : a ≤ 255) (_hb : b ≤ 255) : Calls Try.prog 5 #[.int .u8 (a : Int), .int .u8 (b : Int)] w fun e w' => e = .returned (.bool true) ∧ Fr no w w' := by
  have KN := known_any w
  go_enter Try.func5, Try.ntmps5
  go_wp2_with fail
  refine KN.mono ?_
  rintro _ w1 ⟨rfl, f1⟩
  have NW := Js.new f1
  clear KN f1
  go_wp2_with fail
  refine NW.mono ?_
  rintro _ w2 ⟨p, rfl, j2, -⟩
  have HJ2 : Hid _ := j2
  clear NW j2
  go_wp2_with fail
  obtain ⟨k, hk⟩ : ∃ k : Nat, (a : Int) % 10 + 2 = (k : Int) := ⟨a % 10 + 2, by omega⟩
  have hk2 : 2 ≤ k ∧ k ≤ 11 := by omega
  rw [hk]
  clear hk
  go_loopw [7] (fun iv wr => ∃ i : Nat, iv = .int .i64 (i : Int) ∧ i ≤ k ∧ Js w wr p i (rT i)) (fun iv _ => k - (intOf iv).toNat)
  case atStart => exact ⟨0, rfl, Nat.zero_le _, HJ2.out⟩
  case round =>
    clear HJ2
    obtain ⟨i, rfl, hi, js⟩ := hrel
    by_cases hik : i < k
    · have hik' : (i : Int) < (k : Int) := by omega
      have SP := js.spawn (by omega)
      rw [rT_step i (by omega)] at SP
      clear js
      go_wp2_with fail
      refine SP.mono ?_
      rintro _ w3 ⟨rfl, j3, -⟩
      have HJ3 : Hid _ := j3
      clear SP j3
      go_wp2_with fail
      go_roundw
      case rel => exact ⟨i + 1, by go_num, by omega, HJ3.out⟩
      case measure => simp [intOf]; omega
    · obtain rfl : i = k := by omega
      have HJ3 : Hid _ := js
      clear js
      go_wp2_with fail
      go_loopw [10, 11] (fun lv iv wr => ∃ (j : Nat) (T : List (Int × Int)) (l : List Int), iv = .int .i64 (j : Int) ∧ j ≤ i ∧ Js w wr p i T ∧ JI i j T l ∧ OwnG elI wr lv l ∧ NewV w lv) (fun _ iv _ => i - (intOf iv).toNat)
      case atStart => exact ⟨2, rT i, [], rfl, hk2.1, HJ3.out, JI.begin hk2.1 hk2.2, OwnG.nil _ _, NewV.nil _⟩
      case round =>
        clear HJ3
        obtain ⟨j, T, l, rfl, hj, js, ji, how, hnv⟩ := hrel
        by_cases hji : j < i
        · have hji' : (j : Int) < (i : Int) := by omega
          cases hbit : (((b : Int) / 2 ^ (j % 8)).tmod 2 == 1) with
          | false =>
            have HZ : Hid (Js w wr p i T ∧ JI i (j + 1) T l ∧ OwnG elI wr u10 l ∧ NewV w u10) := ⟨js, ji.skip hji, how, hnv⟩
            clear js ji how hnv
            go_wp2_with fail
            go_roundw
            case rel => exact ⟨j + 1, T, l, by go_num, by omega, HZ.out⟩
            case measure => simp [intOf]; omega
          | true =>
            obtain ⟨f1, f2, f3⟩ := ji.facts hji
            obtain ⟨g1, g2, g3⟩ := ji.after hji
            have JN := js.join (j : Int) 1 (in_nat j (by omega)) ⟨by decide, by decide⟩
            rw [f1, f2, f3] at JN
            have HI : Hid (JI i (j + 1) (T.set (j - 1) (4, 1)) (l ++ [(j : Int)])) := ji.turn hji
            have HO : Hid (OwnG elI wr u10 l ∧ NewV w u10) := ⟨how, hnv⟩
            have HL : Hid (l.length + [(j : Int)].length ≤ 1000000) := by
              have := sel_len (jn 1) T (j - 1)
              rw [← ji.row] at this
              simp only [Hid, List.length_cons, List.length_nil]
              omega
            clear js ji how hnv f1 f2 f3
            go_wp2_with fail
            refine JN.mono ?_
            rintro _ w3 ⟨rfl, j3, f3⟩
            have S3 := state_any j3.ps (j : Int) (in_nat j (by omega))
            rw [g1] at S3
            have E3 := j3.set (j : Int) 1 (in_nat j (by omega))
            rw [g2, g3] at E3
            have HO3 : Hid (OwnG elI w3 u10 l ∧ NewV w u10) := ⟨HO.out.1.tk f3 (by decide), HO.out.2⟩
            clear JN HO j3 f3 g1 g2 g3
            go_wp2_with fail
            refine S3.mono ?_
            rintro _ w4 ⟨rfl, hw4⟩
            subst hw4
            clear S3
            go_wp2_with fail
            refine E3.mono ?_
            rintro _ w5 ⟨rfl, j5, f5⟩
            have HO1 : Hid (OwnG elI (w5.alloc (.cells (elI.f (j : Int)).toArray elI.e)) u10 l) := (HO3.out.1.tk f5 (by decide)).keep ((Fr.refl no w5).alloc _ _)
            have HSR : Hid _ := srcG_one elI_ok w5 (j : Int)
            have HJ5 : Hid (Js w (w5.alloc (.cells (elI.f (j : Int)).toArray elI.e)) p i (T.set (j - 1) (4, 1))) := j5.keep ((Fr.refl no w5).alloc _ _)
            have HN5 : Hid (NewV w u10) := HO3.out.2
            clear E3 j5 f5 HO3
            go_wp2_with (at_builtin; refine wpList_apdG elI_ok _ rfl rfl _ _ rfl u10 l rfl HO1.out _ rfl [(j : Int)] HSR.out HL.out ?_; intro v' w6 o6 s6; have H6 : Hid (OwnG elI w6 v' (l ++ [(j : Int)]) ∧ NewV w v' ∧ Js w w6 p i (T.set (j - 1) (4, 1))) := ⟨o6, (HN5.out.step HJ5.out.fr s6).1, HJ5.out.row HO1.out HN5.out s6⟩; clear o6 s6)
            go_roundw
            case rel => exact ⟨j + 1, _, _, by go_num, by omega, H6.out.2.2, HI.out, H6.out.1, H6.out.2.1⟩
            case measure => simp [intOf]; omega
        · obtain rfl : j = i := by omega
          obtain ⟨f1, f2, f3, f4, f5, f6, f7, f8⟩ := ji.fin
          have EN := js.end_ 1 ⟨by decide, by decide⟩
          rw [f1, f2] at EN
          have HO : Hid (OwnG elI wr u10 l) := how
          have HF8 : Hid ((sel rdy (endT j T 1) j).length + 1 = j) := f8
          have HF : Hid (joinR j (endT j T 1) (j : Int) 1 = true ∧ joinE j (endT j T 1) (j : Int) 1 = 0 ∧ joinT j (endT j T 1) (j : Int) 1 = endT j T 1 ∧ endE j (endT j T 1) 1 = 140 ∧ endT j (endT j T 1) 1 = endT j T 1) := ⟨f3, f4, f5, f6, f7⟩
          clear js ji how hnv f1 f2 f3 f4 f5 f6 f7 f8
          generalize endT j T 1 = T2 at *
          go_wp2_with fail
          refine EN.mono ?_
          rintro _ w3 ⟨o3, k3, c3, rfl, -, h3, n3, j3, f3⟩
          have JN := j3.join (j : Int) 1 (in_nat j (by omega)) ⟨by decide, by decide⟩
          rw [HF.out.1, HF.out.2.1, HF.out.2.2.1] at JN
          have HR3 : Hid (OwnG elI w3 u10 l ∧ OwnG elI w3 (.slice o3 k3 c3) l) := ⟨HO.out.tk f3 (by decide), h3⟩
          clear EN h3 n3 j3 f3 HO
          go_wp2_with fail
          refine JN.mono ?_
          rintro _ w4 ⟨rfl, j4, f4⟩
          have EN := j4.end_ 1 ⟨by decide, by decide⟩
          rw [HF.out.2.2.2.1, HF.out.2.2.2.2] at EN
          have HR4 : Hid (OwnG elI w4 u10 l ∧ OwnG elI w4 (.slice o3 k3 c3) l) := ⟨HR3.out.1.tk f4 (by decide), HR3.out.2.tk f4 (by decide)⟩
          clear JN j4 f4 HR3
          go_wp2_with fail
          refine EN.mono ?_
          rintro _ w5 ⟨o5, k5, c5, rfl, -, -, -, j5, f5⟩
          have IN := ints_any w5 (.slice o3 k3 c3) u10 l l ((HR4.out.2.tk f5 (by decide)).rd elI_ok) ((HR4.out.1.tk f5 (by decide)).rd elI_ok)
          rw [show sameI l l = true from decide_eq_true rfl] at IN
          have HJ5 : Hid _ := j5
          clear EN j5 f5 HR4
          go_wp2_with fail
          refine IN.mono ?_
          rintro _ w6 ⟨rfl, m6, hw6⟩
          have j6 := HJ5.out.keep ((Fr.refl no w5).drewN m6)
          rw [← hw6] at j6
          have RD := j6.ready
          have HF6 : Hid (Fr no w w6) := j6.fr
          clear IN hw6 HJ5 j6
          go_wp2_with fail
          refine RD.mono ?_
          rintro _ w7 ⟨o7, k7, c7, rfl, hk7, -, -, f7⟩
          have HZ : Hid (Fr no w w7) := HF6.out.and f7
          have h8 : (k7 : Int) = (j : Int) - 1 := by have := HF8.out; omega
          have h9 : ((k7 : Int) == (j : Int) - 1) = true := by simpa using h8
          clear RD f7 hk7 h8
          go_wp2_with fail
          go_ret
          exact ⟨rfl, HZ.out⟩
end Go.Proofs.Ytancclmnliiijaa
