/- Signs of the document's lexer. -/
import Derived.Test.YtmpahllkbpofnaaXa
import Derived.Laws.Strings
namespace Go.Proofs.Ytmpahllkbpofnaa
open Go.ChangeShapes Go.WideShapes Go.ChangeAt Go.RowKit

set_option maxRecDepth 100000 in
theorem sign_any (w : World) (s : ByteArray) (h : 0 < s.size) (hs : s.size ≤ 100000) : Calls Try.prog 31 #[.string s] w fun e w' => e = .returned (.string (signT s)) ∧ Fr no w w' := by
  by_cases h2 : 2 ≤ s.size
  · have h2' : (2 : Int) ≤ (s.size : Int) := by omega
    cases ha : ((s.extract 0 2).toList == [61, 61])
    · cases hb : ((s.extract 0 2).toList == [33, 61])
      · have HT : Hid (signT s = if signL.contains ((nl s).getD 0 0) then s.extract 0 1 else ⟨#[]⟩) := by
          show _ = _
          unfold signT twoB
          rw [ha, hb]
          simp
        go_enter Try.func31, Try.ntmps31
        go_wp2_with fail
        generalize hsg : ({ data := #[123, 125, 40, 41, 91, 93, 59, 44, 46, 61, 60, 43, 45, 42, 47, 37, 126] } : ByteArray) = sg at *
        have hsz : sg.size = 17 := by rw [← hsg]; rfl
        have HSG : Hid (∀ (k : Nat) (hk : k < sg.size), signL[k]? = some sg[k].toNat) := fun k hk => by rw [← nl_get sg k hk, ← hsg]; rfl
        clear hsg
        go_loopw [4] (fun i wr => ∃ k m : Nat, i = .int .i64 (k : Int) ∧ k ≤ 17 ∧ wr = w.drewN m ∧ Hid (∀ j, j < k → signL[j]? ≠ some s[0].toNat)) (fun i _ => 17 - (intOf i).toNat)
        case atStart => exact ⟨0, 0, rfl, by omega, rfl, fun j h => by omega⟩
        case round =>
          obtain ⟨k, m, rfl, hk, hwr, HK⟩ := hrel
          have HR : Hid (wr = w.drewN m) := hwr
          clear hwr
          by_cases hlt : k < 17
          · have hk0 : (0 : Int) ≤ (k : Int) := by omega
            have hk17 : (k : Int) < 17 := by omega
            have hks : k < sg.size := by omega
            have HX := HSG.out k hks
            have HXX : Hid _ := HX
            clear HX
            by_cases hxy : s[0].toNat = sg[k].toNat
            · have HT2 : Hid (signT s = s.extract 0 1) := by
                show _ = _
                rw [HT.out, if_pos]
                rw [List.contains_iff_mem, List.getD_eq_getElem?_getD, nl_get s 0 h, Option.getD_some, hxy]
                exact List.mem_of_getElem? HXX.out
              have hb2 : ((s[0].toNat : Int) == (sg[k].toNat : Int)) = true := by simp [hxy]
              clear hxy HT
              go_wp2_with fail
              go_quiet (fail)
              go_wp2_with fail
              go_ret
              exact ⟨by rw [HT2.out]; rfl, by rw [HR.out]; exact ((Fr.refl no w).drewN _).drewN _⟩
            · have hb2 : ((s[0].toNat : Int) == (sg[k].toNat : Int)) = false := by simp; omega
              have HK2 : Hid (∀ j, j < k + 1 → signL[j]? ≠ some s[0].toNat) := by
                intro j hj e
                rcases Nat.lt_succ_iff_lt_or_eq.1 hj with h1 | rfl
                · exact HK.out j h1 e
                · rw [HXX.out] at e
                  simp only [Option.some.injEq] at e
                  exact hxy e.symm
              clear hxy
              go_wp2_with fail
              go_quiet (fail)
              generalize hwq : World.drewN wr nq = wq
              have HQ : Hid (wq = w.drewN (m + nq)) := by rw [Hid, ← hwq, HR.out]; simp
              clear hwq
              go_wp2_with fail
              go_roundw
              case rel => exact ⟨k + 1, m + nq, by go_num, by omega, HQ.out, HK2.out⟩
              case measure => simp [intOf]; omega
          · obtain rfl : k = 17 := by omega
            have HT2 : Hid (signT s = ⟨#[]⟩) := by
              show _ = _
              rw [HT.out, if_neg]
              rw [List.contains_iff_mem, List.getD_eq_getElem?_getD, nl_get s 0 h, Option.getD_some]
              intro hm
              obtain ⟨j, hj, e⟩ := List.mem_iff_getElem.1 hm
              exact HK.out j hj (by rw [List.getElem?_eq_getElem hj, e])
            clear hlt hk HT
            go_wp2_with fail
            go_ret
            exact ⟨by rw [HT2.out]; rfl, by rw [HR.out]; exact (Fr.refl no w).drewN _⟩
        
      · have HT : Hid (signT s = s.extract 0 2) := by
          show _ = _
          unfold signT twoB
          rw [ha, hb]
          simp [h2]
        go_enter Try.func31, Try.ntmps31
        go_wp2_with fail
        go_ret
        exact ⟨by rw [HT.out]; rfl, Fr.refl _ _⟩
    · have HT : Hid (signT s = s.extract 0 2) := by
        show _ = _
        unfold signT twoB
        rw [ha]
        simp [h2]
      go_enter Try.func31, Try.ntmps31
      go_wp2_with fail
      go_ret
      exact ⟨by rw [HT.out]; rfl, Fr.refl _ _⟩
  · have h2' : ¬ (2 : Int) ≤ (s.size : Int) := by omega
    have HT : Hid (signT s = if signL.contains ((nl s).getD 0 0) then s.extract 0 1 else ⟨#[]⟩) := by
      show _ = _
      unfold signT twoB
      simp [h2]
    go_enter Try.func31, Try.ntmps31
    go_wp2_with fail
    generalize hsg : ({ data := #[123, 125, 40, 41, 91, 93, 59, 44, 46, 61, 60, 43, 45, 42, 47, 37, 126] } : ByteArray) = sg at *
    have hsz : sg.size = 17 := by rw [← hsg]; rfl
    have HSG : Hid (∀ (k : Nat) (hk : k < sg.size), signL[k]? = some sg[k].toNat) := fun k hk => by rw [← nl_get sg k hk, ← hsg]; rfl
    clear hsg
    go_loopw [4] (fun i wr => ∃ k m : Nat, i = .int .i64 (k : Int) ∧ k ≤ 17 ∧ wr = w.drewN m ∧ Hid (∀ j, j < k → signL[j]? ≠ some s[0].toNat)) (fun i _ => 17 - (intOf i).toNat)
    case atStart => exact ⟨0, 0, rfl, by omega, rfl, fun j h => by omega⟩
    case round =>
      obtain ⟨k, m, rfl, hk, hwr, HK⟩ := hrel
      have HR : Hid (wr = w.drewN m) := hwr
      clear hwr
      by_cases hlt : k < 17
      · have hk0 : (0 : Int) ≤ (k : Int) := by omega
        have hk17 : (k : Int) < 17 := by omega
        have hks : k < sg.size := by omega
        have HX := HSG.out k hks
        have HXX : Hid _ := HX
        clear HX
        by_cases hxy : s[0].toNat = sg[k].toNat
        · have HT2 : Hid (signT s = s.extract 0 1) := by
            show _ = _
            rw [HT.out, if_pos]
            rw [List.contains_iff_mem, List.getD_eq_getElem?_getD, nl_get s 0 h, Option.getD_some, hxy]
            exact List.mem_of_getElem? HXX.out
          have hb2 : ((s[0].toNat : Int) == (sg[k].toNat : Int)) = true := by simp [hxy]
          clear hxy HT
          go_wp2_with fail
          go_quiet (fail)
          go_wp2_with fail
          go_ret
          exact ⟨by rw [HT2.out]; rfl, by rw [HR.out]; exact ((Fr.refl no w).drewN _).drewN _⟩
        · have hb2 : ((s[0].toNat : Int) == (sg[k].toNat : Int)) = false := by simp; omega
          have HK2 : Hid (∀ j, j < k + 1 → signL[j]? ≠ some s[0].toNat) := by
            intro j hj e
            rcases Nat.lt_succ_iff_lt_or_eq.1 hj with h1 | rfl
            · exact HK.out j h1 e
            · rw [HXX.out] at e
              simp only [Option.some.injEq] at e
              exact hxy e.symm
          clear hxy
          go_wp2_with fail
          go_quiet (fail)
          generalize hwq : World.drewN wr nq = wq
          have HQ : Hid (wq = w.drewN (m + nq)) := by rw [Hid, ← hwq, HR.out]; simp
          clear hwq
          go_wp2_with fail
          go_roundw
          case rel => exact ⟨k + 1, m + nq, by go_num, by omega, HQ.out, HK2.out⟩
          case measure => simp [intOf]; omega
      · obtain rfl : k = 17 := by omega
        have HT2 : Hid (signT s = ⟨#[]⟩) := by
          show _ = _
          rw [HT.out, if_neg]
          rw [List.contains_iff_mem, List.getD_eq_getElem?_getD, nl_get s 0 h, Option.getD_some]
          intro hm
          obtain ⟨j, hj, e⟩ := List.mem_iff_getElem.1 hm
          exact HK.out j hj (by rw [List.getElem?_eq_getElem hj, e])
        clear hlt hk HT
        go_wp2_with fail
        go_ret
        exact ⟨by rw [HT2.out]; rfl, by rw [HR.out]; exact (Fr.refl no w).drewN _⟩
    
end Go.Proofs.Ytmpahllkbpofnaa
