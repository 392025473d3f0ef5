/- The document's lexer. -/
import Derived.Test.YtmpahllkbpofnaaXc
import Derived.Test.YtmpahllkbpofnaaXw
import Derived.Lib.Strings
namespace Go.Proofs.Ytmpahllkbpofnaa
open Go.ChangeShapes Go.WideShapes Go.ChangeAt Go.RowKit

theorem isEmpty_size (t : ByteArray) : t.toList.isEmpty = decide (t.size = 0) := by
  rw [ByteArray.toList_eq]
  cases t with
  | mk d => cases d with
    | mk l => cases l <;> simp [ByteArray.size]
theorem signT_le (s : ByteArray) : (signT s).size ≤ s.size := by
  unfold signT
  split
  · simp; omega
  · split
    · simp; omega
    · exact Nat.zero_le _
theorem numEnd_bd {s : ByteArray} {a : Nat} (h : a < s.size) (hd : digitB (at0 s a) = true) : a < numEnd s (digE s a) ∧ numEnd s (digE s a) ≤ s.size := by
  have h1 : digE s a ≤ s.size := by
    have := runTo_le digitB (nl s) (nl s).length a (by rw [nl_length]; omega)
    rw [nl_length] at this
    unfold digE
    rw [nl_length]
    exact this
  have h2 : a < digE s a := by
    obtain ⟨k', _, h3⟩ := runTo_next (E := digE s a) (i := a) rfl (by omega) (by rw [nl_length]; exact h) hd
    have := runTo_ge digitB (nl s) k' (a + 1)
    omega
  cases hs : suf s (digE s a)
  · rw [numEnd_n hs]
    exact ⟨h2, h1⟩
  · rw [numEnd_y hs]
    refine ⟨by omega, ?_⟩
    by_cases h4 : digE s a < s.size
    · omega
    · unfold suf sufC sufI at hs
      rw [decide_eq_false h4] at hs
      simp at hs

theorem srcG_one2 {α : Type} {K : El α} (hK : K.Ok) (w : World) (c : Array Value) (t : TypeId) (x : α) : Src Try.prog K.n K.t (.slice (some ⟨w.heap.size + 1, 0, none⟩) 1 1) ([x] : List α).length (cg K [x]) ((w.alloc (.cells c t)).alloc (.cells (K.f x).toArray K.e)) := by
  have h := srcG_one hK (w.alloc (.cells c t)) x
  have e : (w.alloc (.cells c t)).heap.size = w.heap.size + 1 := by
    show (w.heap.push _).size = _
    simp
  rwa [e] at h

theorem letter_later {c : Nat} (h : letterB c true = true) : letterB c false = true := by
  unfold letterB at *
  simp at *
  exact .inl h
theorem srcG_oneN {α : Type} {K : El α} (hK : K.Ok) (w : World) (n : Nat) (hn : w.heap.size = n) (x : α) : Src Try.prog K.n K.t (.slice (some ⟨n, 0, none⟩) 1 1) ([x] : List α).length (cg K [x]) (w.alloc (.cells (K.f x).toArray K.e)) := hn ▸ srcG_one hK w x

set_option maxRecDepth 100000 in
set_option maxHeartbeats 4000000 in
theorem all_any (w : World) (s : ByteArray) (hs : s.size ≤ 8000) :
    Calls Try.prog 10 #[.string s] w fun e w' => ∃ v, e = .returned (.tuple #[v, .int .i64 ((lexF s (s.size + 1) 0 []).1 : Nat), .int .i64 ((lexF s (s.size + 1) 0 []).2.2 : Nat)]) ∧ (OwnG elK w' v (lexF s (s.size + 1) 0 []).2.1 ∧ NewV w v) ∧ Fr no w w' := by
  have scx := store_cx
  have hs' : ¬ (8000 : Int) < (s.size : Int) := by omega
  generalize hR : lexF s (s.size + 1) 0 [] = R
  have HR : Hid (lexF s (s.size + 1) 0 [] = R) := hR
  clear hR
  go_enter Try.func10, Try.ntmps10
  go_wp2_with fail
  go_loopw [5, 6] (fun lv iv wr => ∃ (k a : Nat) (acc : List Tk), iv = .int .i64 (a : Int) ∧ a ≤ s.size ∧ acc.length ≤ a ∧ OwnG elK wr lv acc ∧ NewV w lv ∧ Fr no w wr ∧ Hid (s.size - a ≤ k ∧ lexF s (k + 1) a acc = R)) (fun _ iv _ => s.size - (intOf iv).toNat)
  case atStart => exact ⟨s.size, 0, [], rfl, by omega, by simp, OwnG.nil _ _, NewV.nil _, Fr.refl _ _, ⟨by omega, HR.out⟩⟩
  case round =>
    obtain ⟨k, a, acc, rfl, ha, hal, hO, hN, hF, HL⟩ := hrel
    obtain ⟨oo, cc, rfl⟩ := hO.form
    have H1 : Hid (OwnG elK wr (.slice oo acc.length cc) acc ∧ NewV w (.slice oo acc.length cc) ∧ Fr no w wr) := ⟨hO, hN, hF⟩
    clear hO hN hF
    have h0 : (0 : Int) ≤ (a : Int) := by omega
    by_cases hlt : a < s.size
    · have hlt' : (a : Int) < (s.size : Int) := by omega
      obtain ⟨k, rfl⟩ : ∃ k0, k = k0 + 1 := ⟨k - 1, by have := HL.out.1; omega⟩
      have HA : Hid (at0 s a = s[a].toNat) := at0_eq s a hlt
      have BL := blank_any wr s[a].toNat
      cases hb : blankB s[a].toNat
      · rw [hb] at BL
        by_cases h47 : s[a].toNat = 47
        · skip
          have h47' : ((s[a].toNat : Int) == 47) = true := by simp [h47]
          have hl : letterB s[a].toNat true = false := by rw [h47]; rfl
          have hd : digitB s[a].toNat = false := by rw [h47]; rfl
          have a10 : (0 : Int) ≤ (a : Int) + 1 := by omega
          by_cases hn : a + 1 < s.size
          · have hn' : (a : Int) + 1 < (s.size : Int) := by omega
            by_cases h2 : s[a + 1].toNat = 47
            · have h2' : ((s[a + 1].toNat : Int) == 47) = true := by simp [h2]
              have HC : Hid (isCom s a = true) := by
                show _ = _
                unfold isCom
                rw [HA.out, at0_eq s (a + 1) hn, decide_eq_true h47, decide_eq_true hn, decide_eq_true h2]
                rfl
              have ho : one s a = (comE s a, [], 0) := by
                simp only [one, HA.out, hb, HC.out, Bool.false_eq_true, if_false, if_true]
              obtain ⟨E, hE⟩ : ∃ E, comE s a = E := ⟨_, rfl⟩
              rw [hE] at ho
              have HE : Hid (comE s a = E) := hE
              have HLL : Hid (a < E) := by
                show _
                obtain ⟨k', _, h3⟩ := runTo_next (E := E) (i := a) hE (by omega) (by rw [nl_length]; exact hlt) (by show (!decide (at0 s a = 10)) = true; rw [HA.out, h47]; rfl)
                rw [← h3]
                exact Nat.lt_of_lt_of_le (Nat.lt_succ_self a) (runTo_ge _ _ _ _)
              have HG : Hid _ := lexF_go HL.out.2 hlt ho
              clear ho hE h47 h2 hl hd
              go_wp2_with fail
              refine BL.mono ?_
              rintro _ wz ⟨rfl, rfl⟩
              go_wp2_with fail
              clear BL
              go_loopw [6] (fun ev wr => wr = wz ∧ ∃ k e : Nat, ev = .int .i64 (e : Int) ∧ a ≤ e ∧ e ≤ s.size ∧ Hid (s.size - e ≤ k ∧ runTo (fun c => !decide (c = 10)) (nl s) k e = E)) (fun ev _ => s.size - (intOf ev).toNat)
              case atStart => exact ⟨rfl, (nl s).length, a, rfl, by omega, by omega, ⟨by rw [nl_length]; omega, HE.out⟩⟩
              case round =>
                obtain ⟨hwr, k2, e, rfl, hae, hes, HK⟩ := hrel
                subst hwr
                have he0 : (0 : Int) ≤ (e : Int) := by omega
                by_cases hlt2 : e < s.size
                · have hlt2' : (e : Int) < (s.size : Int) := by omega
                  have HAE : Hid ((nl s).getD e 0 = s[e].toNat) := at0_eq s e hlt2
                  by_cases h10 : s[e].toNat = 10
                  · have h10' : ((s[e].toNat : Int) == 10) = true := by simp [h10]
                    have hEe : E = e := runTo_here HK.out.2 (.inr (by rw [HAE.out, h10]; rfl))
                    subst hEe
                    clear h10
                    have HGG : Hid (lexF s (k + 1) E acc = R) := by have h := HG.out; rwa [List.append_nil] at h
                    go_wp2_with fail
                    go_roundw
                    case rel => exact ⟨k, E, acc, rfl, by omega, by omega, H1.out.1, H1.out.2.1, H1.out.2.2, ⟨by have := HL.out.1; have := HLL.out; omega, HGG.out⟩⟩
                    case measure => have := HLL.out; simp [intOf]; omega
                  · have h10' : ((s[e].toNat : Int) == 10) = false := by simp; omega
                    have HN := runTo_next HK.out.2 (by rw [nl_length]; exact HK.out.1) (by rw [nl_length]; exact hlt2) (by rw [HAE.out, decide_eq_false h10]; rfl)
                    have HNN : Hid _ := HN
                    clear HN
                    go_wp2_with fail
                    go_roundw
                    case rel =>
                      obtain ⟨k', h1, h2⟩ := HNN.out
                      exact ⟨trivial, k', e + 1, by congr 1, by omega, by omega, ⟨by rw [nl_length] at h1; exact h1, h2⟩⟩
                    case measure => simp [intOf]; omega
                · have hEe : E = e := runTo_here HK.out.2 (.inl (by rw [nl_length]; omega))
                  have hlt2' : ¬ (e : Int) < (s.size : Int) := by omega
                  subst hEe
                  have HGG : Hid (lexF s (k + 1) E acc = R) := by have h := HG.out; rwa [List.append_nil] at h
                  go_wp2_with fail
                  go_roundw
                  case rel => exact ⟨k, E, acc, rfl, by omega, by omega, H1.out.1, H1.out.2.1, H1.out.2.2, ⟨by have := HL.out.1; have := HLL.out; omega, HGG.out⟩⟩
                  case measure => have := HLL.out; simp [intOf]; omega
            · have h2' : ((s[a + 1].toNat : Int) == 47) = false := by simp; omega
              have HC : Hid (isCom s a = false) := by
                show _ = _
                unfold isCom
                rw [at0_eq s (a + 1) hn, decide_eq_false h2, Bool.and_false, Bool.and_false]
              clear h2
              have ho : one s a = if (signT (s.extract a s.size)).size = 0 then (a, [], 180) else (a + (signT (s.extract a s.size)).size, [signTok s a], 0) := by
                simp only [one, HA.out, hb, HC.out, hl, hd, Bool.false_eq_true, if_false]
              have HLT := fun w => letter_any w s[a].toNat true
              rw [hl] at HLT
              have HDG := fun w => digit_any w s[a].toNat
              rw [hd] at HDG
              clear h47 hl hd
              have HS := fun w => sign_any w (s.extract a s.size) (by simp; omega) (by simp; omega)
              unfold signTok at ho
              obtain ⟨t, hT⟩ : ∃ t, signT (s.extract a s.size) = t := ⟨_, rfl⟩
              simp only [hT] at HS ho
              have HOO : Hid _ := ho
              have HTS : Hid (a + t.size ≤ s.size) := by
                have h := signT_le (s.extract a s.size)
                rw [hT] at h
                have h2 : (s.extract a s.size).size = s.size - a := by simp
                show _ ≤ _
                omega
              clear ho hT
              go_wp2_with fail
              refine BL.mono ?_
              rintro _ _ ⟨rfl, rfl⟩
              go_wp2_with fail
              refine (HLT _).mono ?_
              rintro _ _ ⟨rfl, rfl⟩
              go_wp2_with fail
              refine (HDG _).mono ?_
              rintro _ _ ⟨rfl, rfl⟩
              go_wp2_with fail
              refine (HS _).mono ?_
              rintro _ w1 ⟨rfl, F1⟩
              have HF1 : Hid (Fr no _ w1) := F1
              clear F1
              by_cases hz0 : t.size = 0
              · have hte : t.toList.isEmpty = true := by rw [isEmpty_size, decide_eq_true hz0]
                have HR2 := lexF_bad HL.out.2 hlt (HOO.out.trans (if_pos hz0)) (by decide)
                subst HR2
                go_wp2_with fail
                refine bodyPost_ret (results_tmp3 rfl _ _ _) rfl ?_
                exact ⟨_, rfl, ⟨OwnG.nil _ _, NewV.nil _⟩, (H1.out.2.2).and HF1.out⟩
              · have hte : t.toList.isEmpty = false := by rw [isEmpty_size, decide_eq_false hz0]
                have HG : Hid _ := lexF_go HL.out.2 hlt (HOO.out.trans (if_neg hz0))
                have hts : (t.size : Int) + (a : Int) ≤ 8000 ∧ 0 < t.size := ⟨by have := HTS.out; omega, by omega⟩
                have HO1 : Hid (OwnG elK (w1.alloc (.cells (elK.f ⟨5, a, t, 0, 0, 0⟩).toArray elK.e)) (.slice oo acc.length cc) acc) := (H1.out.1.keep HF1.out).keep ((Fr.refl no _).alloc _ _)
                go_wp2_with (at_builtin; refine wpList_apdG elK_ok _ rfl rfl _ _ rfl (.slice oo acc.length cc) acc rfl HO1.out _ rfl [⟨5, a, t, 0, 0, 0⟩] (srcG_one elK_ok w1 ⟨5, a, t, 0, 0, 0⟩) (by simp; omega) ?_; intro v' w3 o3 s3; obtain ⟨n3, f3⟩ := NewV.step (S := no) H1.out.2.1 (((H1.out.2.2).and HF1.out).alloc _ _) s3; have H3 : Hid (OwnG elK w3 v' (acc ++ [⟨5, a, t, 0, 0, 0⟩]) ∧ NewV w v' ∧ Fr no w w3) := ⟨o3, n3, f3⟩; clear o3 n3 f3 s3)
                go_roundw
                case rel => exact ⟨k, a + t.size, acc ++ [⟨5, a, t, 0, 0, 0⟩], by congr 1, HTS.out, by simp; omega, H3.out.1, H3.out.2.1, H3.out.2.2, ⟨by have := HL.out.1; omega, HG.out⟩⟩
                case measure => simp [intOf]; omega
          · have hn' : ¬ (a : Int) + 1 < (s.size : Int) := by omega
            have HC : Hid (isCom s a = false) := by
              show _ = _
              unfold isCom
              rw [decide_eq_false hn, Bool.false_and, Bool.and_false]
            have ho : one s a = if (signT (s.extract a s.size)).size = 0 then (a, [], 180) else (a + (signT (s.extract a s.size)).size, [signTok s a], 0) := by
              simp only [one, HA.out, hb, HC.out, hl, hd, Bool.false_eq_true, if_false]
            have HLT := fun w => letter_any w s[a].toNat true
            rw [hl] at HLT
            have HDG := fun w => digit_any w s[a].toNat
            rw [hd] at HDG
            clear h47 hl hd
            have HS := fun w => sign_any w (s.extract a s.size) (by simp; omega) (by simp; omega)
            unfold signTok at ho
            obtain ⟨t, hT⟩ : ∃ t, signT (s.extract a s.size) = t := ⟨_, rfl⟩
            simp only [hT] at HS ho
            have HOO : Hid _ := ho
            have HTS : Hid (a + t.size ≤ s.size) := by
              have h := signT_le (s.extract a s.size)
              rw [hT] at h
              have h2 : (s.extract a s.size).size = s.size - a := by simp
              show _ ≤ _
              omega
            clear ho hT
            go_wp2_with fail
            refine BL.mono ?_
            rintro _ _ ⟨rfl, rfl⟩
            go_wp2_with fail
            refine (HLT _).mono ?_
            rintro _ _ ⟨rfl, rfl⟩
            go_wp2_with fail
            refine (HDG _).mono ?_
            rintro _ _ ⟨rfl, rfl⟩
            go_wp2_with fail
            refine (HS _).mono ?_
            rintro _ w1 ⟨rfl, F1⟩
            have HF1 : Hid (Fr no _ w1) := F1
            clear F1
            by_cases hz0 : t.size = 0
            · have hte : t.toList.isEmpty = true := by rw [isEmpty_size, decide_eq_true hz0]
              have HR2 := lexF_bad HL.out.2 hlt (HOO.out.trans (if_pos hz0)) (by decide)
              subst HR2
              go_wp2_with fail
              refine bodyPost_ret (results_tmp3 rfl _ _ _) rfl ?_
              exact ⟨_, rfl, ⟨OwnG.nil _ _, NewV.nil _⟩, (H1.out.2.2).and HF1.out⟩
            · have hte : t.toList.isEmpty = false := by rw [isEmpty_size, decide_eq_false hz0]
              have HG : Hid _ := lexF_go HL.out.2 hlt (HOO.out.trans (if_neg hz0))
              have hts : (t.size : Int) + (a : Int) ≤ 8000 ∧ 0 < t.size := ⟨by have := HTS.out; omega, by omega⟩
              have HO1 : Hid (OwnG elK (w1.alloc (.cells (elK.f ⟨5, a, t, 0, 0, 0⟩).toArray elK.e)) (.slice oo acc.length cc) acc) := (H1.out.1.keep HF1.out).keep ((Fr.refl no _).alloc _ _)
              go_wp2_with (at_builtin; refine wpList_apdG elK_ok _ rfl rfl _ _ rfl (.slice oo acc.length cc) acc rfl HO1.out _ rfl [⟨5, a, t, 0, 0, 0⟩] (srcG_one elK_ok w1 ⟨5, a, t, 0, 0, 0⟩) (by simp; omega) ?_; intro v' w3 o3 s3; obtain ⟨n3, f3⟩ := NewV.step (S := no) H1.out.2.1 (((H1.out.2.2).and HF1.out).alloc _ _) s3; have H3 : Hid (OwnG elK w3 v' (acc ++ [⟨5, a, t, 0, 0, 0⟩]) ∧ NewV w v' ∧ Fr no w w3) := ⟨o3, n3, f3⟩; clear o3 n3 f3 s3)
              go_roundw
              case rel => exact ⟨k, a + t.size, acc ++ [⟨5, a, t, 0, 0, 0⟩], by congr 1, HTS.out, by simp; omega, H3.out.1, H3.out.2.1, H3.out.2.2, ⟨by have := HL.out.1; omega, HG.out⟩⟩
              case measure => simp [intOf]; omega
        · have g47 : ((s[a].toNat : Int) == 47) = false := by simp; omega
          have HC : Hid (isCom s a = false) := by
            show _ = _
            unfold isCom
            rw [HA.out, decide_eq_false h47]
            rfl
          have LT := letter_any
          have HLT := fun w => LT w s[a].toNat true
          clear LT
          cases hl : letterB s[a].toNat true
          · rw [hl] at HLT
            have DG := digit_any
            have HDG := fun w => DG w s[a].toNat
            clear DG
            cases hd : digitB s[a].toNat
            · rw [hd] at HDG
              have HS := fun w => sign_any w (s.extract a s.size) (by simp; omega) (by simp; omega)
              have ho : one s a = if (signT (s.extract a s.size)).size = 0 then (a, [], 180) else (a + (signT (s.extract a s.size)).size, [signTok s a], 0) := by
                simp only [one, HA.out, hb, HC.out, hl, hd, Bool.false_eq_true, if_false]
              unfold signTok at ho
              obtain ⟨t, hT⟩ : ∃ t, signT (s.extract a s.size) = t := ⟨_, rfl⟩
              simp only [hT] at HS ho
              have HOO : Hid _ := ho
              have HTS : Hid (a + t.size ≤ s.size) := by
                have h := signT_le (s.extract a s.size)
                rw [hT] at h
                have h2 : (s.extract a s.size).size = s.size - a := by simp
                show _ ≤ _
                omega
              clear ho hT
              go_wp2_with fail
              refine BL.mono ?_
              rintro _ _ ⟨rfl, rfl⟩
              go_wp2_with fail
              refine (HLT _).mono ?_
              rintro _ _ ⟨rfl, rfl⟩
              go_wp2_with fail
              refine (HDG _).mono ?_
              rintro _ _ ⟨rfl, rfl⟩
              go_wp2_with fail
              refine (HS _).mono ?_
              rintro _ w1 ⟨rfl, F1⟩
              have HF1 : Hid (Fr no _ w1) := F1
              clear F1
              by_cases hz0 : t.size = 0
              · have hte : t.toList.isEmpty = true := by rw [isEmpty_size, decide_eq_true hz0]
                have HR2 := lexF_bad HL.out.2 hlt (HOO.out.trans (if_pos hz0)) (by decide)
                subst HR2
                go_wp2_with fail
                refine bodyPost_ret (results_tmp3 rfl _ _ _) rfl ?_
                exact ⟨_, rfl, ⟨OwnG.nil _ _, NewV.nil _⟩, (H1.out.2.2).and HF1.out⟩
              · have hte : t.toList.isEmpty = false := by rw [isEmpty_size, decide_eq_false hz0]
                have HG : Hid _ := lexF_go HL.out.2 hlt (HOO.out.trans (if_neg hz0))
                have hts : (t.size : Int) + (a : Int) ≤ 8000 ∧ 0 < t.size := ⟨by have := HTS.out; omega, by omega⟩
                have HO1 : Hid (OwnG elK (w1.alloc (.cells (elK.f ⟨5, a, t, 0, 0, 0⟩).toArray elK.e)) (.slice oo acc.length cc) acc) := (H1.out.1.keep HF1.out).keep ((Fr.refl no _).alloc _ _)
                go_wp2_with (at_builtin; refine wpList_apdG elK_ok _ rfl rfl _ _ rfl (.slice oo acc.length cc) acc rfl HO1.out _ rfl [⟨5, a, t, 0, 0, 0⟩] (srcG_one elK_ok w1 ⟨5, a, t, 0, 0, 0⟩) (by simp; omega) ?_; intro v' w3 o3 s3; obtain ⟨n3, f3⟩ := NewV.step (S := no) H1.out.2.1 (((H1.out.2.2).and HF1.out).alloc _ _) s3; have H3 : Hid (OwnG elK w3 v' (acc ++ [⟨5, a, t, 0, 0, 0⟩]) ∧ NewV w v' ∧ Fr no w w3) := ⟨o3, n3, f3⟩; clear o3 n3 f3 s3)
                go_roundw
                case rel => exact ⟨k, a + t.size, acc ++ [⟨5, a, t, 0, 0, 0⟩], by congr 1, HTS.out, by simp; omega, H3.out.1, H3.out.2.1, H3.out.2.2, ⟨by have := HL.out.1; omega, HG.out⟩⟩
                case measure => simp [intOf]; omega
            · rw [hd] at HDG
              have HN := fun w => number_any w s a hlt (by omega)
              have hbd := numEnd_bd hlt (by rw [HA.out]; exact hd)
              have ho : one s a = (numEnd s (digE s a), [numTok s a (digE s a)], numErr s a (digE s a)) := by
                simp only [one, HA.out, hb, HC.out, hl, hd, Bool.false_eq_true, if_false, if_true]
              obtain ⟨E, hE⟩ : ∃ E, digE s a = E := ⟨_, rfl⟩
              obtain ⟨z, hz⟩ : ∃ z, numErr s a E = z := ⟨_, rfl⟩
              rw [hE, hz] at ho
              rw [hE] at hbd
              simp only [hE, hz] at HN
              have HOO : Hid _ := ho
              have HBD : Hid _ := hbd
              clear ho hbd hE hz
              go_wp2_with fail
              refine BL.mono ?_
              rintro _ _ ⟨rfl, rfl⟩
              go_wp2_with fail
              refine (HLT _).mono ?_
              rintro _ _ ⟨rfl, rfl⟩
              go_wp2_with fail
              refine (HDG _).mono ?_
              rintro _ _ ⟨rfl, rfl⟩
              go_wp2_with fail
              refine (HN _).mono ?_
              rintro _ w1 ⟨⟨q0, q1, q2, q3, q4, q5⟩, y, rfl, HXY, F1⟩
              simp only [tkV]
              by_cases hz0 : z = 0
              · subst hz0
                obtain ⟨hx, rfl⟩ := HXY.out rfl
                rw [← hx] at HOO
                have HG : Hid _ := lexF_go HL.out.2 hlt HOO.out
                have HF1 : Hid (Fr no _ w1) := F1
                clear F1 hx HXY
                have HO1 : Hid (OwnG elK ((w1.alloc (.cells (elK.f ⟨q0, q1, q2, q3, q4, q5⟩).toArray elK.e)).alloc (.cells (elK.f (⟨q0, q1, q2, q3, q4, q5⟩ : Tk)).toArray elK.e)) (.slice oo acc.length cc) acc) := ((H1.out.1.keep HF1.out).keep ((Fr.refl no _).alloc _ _)).keep ((Fr.refl no _).alloc _ _)
                go_wp2_with (at_builtin; refine wpList_apdG elK_ok _ rfl rfl _ _ rfl (.slice oo acc.length cc) acc rfl HO1.out _ rfl [(⟨q0, q1, q2, q3, q4, q5⟩ : Tk)] (srcG_one2 elK_ok w1 _ _ (⟨q0, q1, q2, q3, q4, q5⟩ : Tk)) (by simp; omega) ?_; intro v' w3 o3 s3; obtain ⟨n3, f3⟩ := NewV.step (S := no) H1.out.2.1 ((((H1.out.2.2).and HF1.out).alloc _ _).alloc _ _) s3; have H3 : Hid (OwnG elK w3 v' (acc ++ [(⟨q0, q1, q2, q3, q4, q5⟩ : Tk)]) ∧ NewV w v' ∧ Fr no w w3) := ⟨o3, n3, f3⟩; clear o3 n3 f3 s3)
                go_roundw
                case rel => exact ⟨k, numEnd s E, acc ++ [(⟨q0, q1, q2, q3, q4, q5⟩ : Tk)], rfl, HBD.out.2, by have := HBD.out.1; simp; omega, H3.out.1, H3.out.2.1, H3.out.2.2, ⟨by have := HL.out.1; have := HBD.out.1; omega, HG.out⟩⟩
                case measure => have := HBD.out; simp [intOf]; omega
              · have hz1 : ((z : Int) == 0) = false := by simp; omega
                have hz2 : ¬ (z : Int) = 0 := by omega
                have HR2 := lexF_bad HL.out.2 hlt HOO.out hz0
                subst HR2
                have HF1 : Hid (Fr no _ w1) := F1
                clear F1
                go_wp2_with fail
                refine bodyPost_ret (results_tmp3 rfl _ _ _) rfl ?_
                exact ⟨_, rfl, ⟨OwnG.nil _ _, NewV.nil _⟩, ((H1.out.2.2).and HF1.out).alloc _ _⟩
          · rw [hl] at HLT
            have ho : one s a = if 20 < wordE s a - a then (a, [], 32) else (wordE s a, [wordTok s a], 0) := by
              simp only [one, HA.out, hb, HC.out, hl, Bool.false_eq_true, if_false, if_true]
            unfold wordTok at ho
            obtain ⟨E, hE⟩ : ∃ E, wordE s a = E := ⟨_, rfl⟩
            simp only [hE] at ho
            have HOO : Hid _ := ho
            have HE : Hid (wordE s a = E) := hE
            have HLL : Hid (a < E) := by
              show _
              obtain ⟨k', _, h3⟩ := runTo_next (E := E) (i := a) hE (by omega) (by rw [nl_length]; exact hlt) (by show letterB (at0 s a) false = true; rw [HA.out]; exact letter_later hl)
              rw [← h3]
              exact Nat.lt_of_lt_of_le (Nat.lt_succ_self a) (runTo_ge _ _ _ _)
            clear ho hE
            go_wp2_with fail
            refine BL.mono ?_
            rintro _ _ ⟨rfl, rfl⟩
            go_wp2_with fail
            refine (HLT _).mono ?_
            rintro _ wz ⟨rfl, rfl⟩
            go_wp2_with fail
            clear BL HLT
            go_loopw [8] (fun ev wr => wr = wz ∧ ∃ k e : Nat, ev = .int .i64 (e : Int) ∧ a ≤ e ∧ e ≤ s.size ∧ Hid (s.size - e ≤ k ∧ runTo (fun c => letterB c false) (nl s) k e = E)) (fun ev _ => s.size - (intOf ev).toNat)
            case atStart => exact ⟨rfl, (nl s).length, a, rfl, by omega, by omega, ⟨by rw [nl_length]; omega, HE.out⟩⟩
            case round =>
              obtain ⟨rfl, k2, e, rfl, hae, hes, HK⟩ := hrel
              have he0 : (0 : Int) ≤ (e : Int) := by omega
              by_cases hlt2 : e < s.size
              · have hlt2' : (e : Int) < (s.size : Int) := by omega
                have HAE : Hid ((nl s).getD e 0 = s[e].toNat) := at0_eq s e hlt2
                have LT := letter_any
                have HLT := fun w => LT w s[e].toNat false
                clear LT
                cases hl2 : letterB s[e].toNat false
                · rw [hl2] at HLT
                  have hEe : E = e := runTo_here HK.out.2 (.inr (by rw [HAE.out]; exact hl2))
                  subst hEe
                  by_cases h20 : (E : Int) - (a : Int) ≤ 20
                  · have HG : Hid _ := lexF_go HL.out.2 hlt (HOO.out.trans (if_neg (by omega)))
                    have HKE : Hid (wordE s a = E) := HE
                    have hd1 : (a : Int) ≤ (E : Int) := by omega
                    have hd2 : (E : Int) ≤ (s.size : Int) := by omega
                    have hd3 : ¬ (E : Int) < (a : Int) := by omega
                    have WD := word_any
                    have HWD := fun w => WD w (s.extract a E)
                    have HAE2 : Hid (a < E) := HLL.out
                    clear WD HE HOO HK
                    cases hw : isWord (s.extract a E)
                    · rw [hw] at HWD HG
                      have HGG : Hid _ := HG
                      clear HG
                      go_wp2_with fail
                      refine (HLT _).mono ?_
                      rintro _ wz ⟨rfl, rfl⟩
                      go_wp2_with fail
                      refine (HWD _).mono ?_
                      rintro _ w1 ⟨rfl, F1⟩
                      have B1 := F1.heap (heap_alloc_new wz _) (fun f => f)
                      have HF1 : Hid (Fr no wz w1) := ((Fr.refl no wz).alloc _ _).and F1
                      clear F1
                      generalize hrr : wz.heap.size = r at B1 ⊢
                      have HRR : Hid _ := hrr
                      clear hrr
                      obtain ⟨z0, z1, z2, z3, z4⟩ := box5 B1
                      clear B1
                      have HO1 : Hid (OwnG elK (w1.alloc (.cells (elK.f ⟨1, a, s.extract a E, 0, 0, 0⟩).toArray elK.e)) (.slice oo acc.length cc) acc) := (H1.out.1.keep HF1.out).keep ((Fr.refl no _).alloc _ _)
                      go_wp2_with (at_builtin; refine wpList_apdG elK_ok _ rfl rfl _ _ rfl (.slice oo acc.length cc) acc rfl HO1.out _ rfl [⟨1, a, s.extract a E, 0, 0, 0⟩] (srcG_one elK_ok w1 ⟨1, a, s.extract a E, 0, 0, 0⟩) (by simp; omega) ?_; intro v' w3 o3 s3; obtain ⟨n3, f3⟩ := NewV.step (S := no) H1.out.2.1 (((H1.out.2.2).and HF1.out).alloc _ _) s3; have H3 : Hid (OwnG elK w3 v' (acc ++ [⟨1, a, s.extract a E, 0, 0, 0⟩]) ∧ NewV w v' ∧ Fr no w w3) := ⟨o3, n3, f3⟩; clear o3 n3 f3 s3)
                      go_roundw
                      case rel => exact ⟨k, E, acc ++ [⟨1, a, s.extract a E, 0, 0, 0⟩], rfl, by omega, by have := HAE2.out; simp; omega, H3.out.1, H3.out.2.1, H3.out.2.2, ⟨by have := HL.out.1; have := HAE2.out; omega, HGG.out⟩⟩
                      case measure => have := HAE2.out; simp [intOf]; omega
                    · rw [hw] at HWD HG
                      have HGG : Hid _ := HG
                      clear HG
                      go_wp2_with fail
                      refine (HLT _).mono ?_
                      rintro _ wz ⟨rfl, rfl⟩
                      go_wp2_with fail
                      refine (HWD _).mono ?_
                      rintro _ w1 ⟨rfl, F1⟩
                      have B1 := F1.heap (heap_alloc_new wz _) (fun f => f)
                      have HF1 : Hid (Fr no wz w1) := ((Fr.refl no wz).alloc _ _).and F1
                      clear F1
                      generalize hrr : wz.heap.size = r at B1 ⊢
                      have HRR : Hid _ := hrr
                      clear hrr
                      obtain ⟨z0, z1, z2, z3, z4⟩ := box5 B1
                      have fz := fun o => frozen_at (o := o) B1
                      have HF2 : Hid (Fr no wz (w1.setCell ⟨r, 0, none⟩ (.int .i64 2))) := HF1.out.newBk (fr_set w1 r 0 _) (Nat.le_of_eq HRR.out)
                      clear B1
                      have HO1 : Hid (OwnG elK ((w1.setCell ⟨r, 0, none⟩ (.int .i64 2)).alloc (.cells (elK.f ⟨2, a, s.extract a E, 0, 0, 0⟩).toArray elK.e)) (.slice oo acc.length cc) acc) := (H1.out.1.keep HF2.out).keep ((Fr.refl no _).alloc _ _)
                      go_wp2_with (at_builtin; refine wpList_apdG elK_ok _ rfl rfl _ _ rfl (.slice oo acc.length cc) acc rfl HO1.out _ rfl [⟨2, a, s.extract a E, 0, 0, 0⟩] (srcG_oneN elK_ok (w1.setCell ⟨r, 0, none⟩ (.int .i64 2)) _ (by simp [World.setCell]) ⟨2, a, s.extract a E, 0, 0, 0⟩) (by simp; omega) ?_; intro v' w3 o3 s3; obtain ⟨n3, f3⟩ := NewV.step (S := no) H1.out.2.1 (((H1.out.2.2).and HF2.out).alloc _ _) s3; have H3 : Hid (OwnG elK w3 v' (acc ++ [⟨2, a, s.extract a E, 0, 0, 0⟩]) ∧ NewV w v' ∧ Fr no w w3) := ⟨o3, n3, f3⟩; clear o3 n3 f3 s3)
                      go_roundw
                      case rel => exact ⟨k, E, acc ++ [⟨2, a, s.extract a E, 0, 0, 0⟩], rfl, by omega, by have := HAE2.out; simp; omega, H3.out.1, H3.out.2.1, H3.out.2.2, ⟨by have := HL.out.1; have := HAE2.out; omega, HGG.out⟩⟩
                      case measure => have := HAE2.out; simp [intOf]; omega
                  · have HR2 := lexF_bad HL.out.2 hlt (HOO.out.trans (if_pos (by omega))) (by decide)
                    subst HR2
                    go_wp2_with fail
                    refine (HLT _).mono ?_
                    rintro _ wz ⟨rfl, rfl⟩
                    go_wp2_with fail
                    refine bodyPost_ret (results_tmp3 rfl _ _ _) rfl ?_
                    exact ⟨_, rfl, ⟨OwnG.nil _ _, NewV.nil _⟩, H1.out.2.2⟩
                · rw [hl2] at HLT
                  have HN := runTo_next HK.out.2 (by rw [nl_length]; exact HK.out.1) (by rw [nl_length]; exact hlt2) (by rw [HAE.out]; exact hl2)
                  have HNN : Hid _ := HN
                  clear HN
                  go_wp2_with fail
                  refine (HLT _).mono ?_
                  rintro _ _ ⟨rfl, rfl⟩
                  go_wp2_with fail
                  go_roundw
                  case rel =>
                    obtain ⟨k', h1, h2⟩ := HNN.out
                    exact ⟨trivial, k', e + 1, by congr 1, by omega, by omega, ⟨by rw [nl_length] at h1; exact h1, h2⟩⟩
                  case measure => simp [intOf]; omega
              · have hEe : E = e := runTo_here HK.out.2 (.inl (by rw [nl_length]; omega))
                have hlt2' : ¬ (e : Int) < (s.size : Int) := by omega
                subst hEe
                by_cases h20 : (E : Int) - (a : Int) ≤ 20
                · have HG : Hid _ := lexF_go HL.out.2 hlt (HOO.out.trans (if_neg (by omega)))
                  have HKE : Hid (wordE s a = E) := HE
                  have hd1 : (a : Int) ≤ (E : Int) := by omega
                  have hd2 : (E : Int) ≤ (s.size : Int) := by omega
                  have hd3 : ¬ (E : Int) < (a : Int) := by omega
                  have WD := word_any
                  have HWD := fun w => WD w (s.extract a E)
                  have HAE2 : Hid (a < E) := HLL.out
                  clear WD HE HOO HK
                  cases hw : isWord (s.extract a E)
                  · rw [hw] at HWD HG
                    have HGG : Hid _ := HG
                    clear HG
                    go_wp2_with fail
                    refine (HWD _).mono ?_
                    rintro _ w1 ⟨rfl, F1⟩
                    have B1 := F1.heap (heap_alloc_new wr _) (fun f => f)
                    have HF1 : Hid (Fr no wr w1) := ((Fr.refl no wr).alloc _ _).and F1
                    clear F1
                    generalize hrr : wr.heap.size = r at B1 ⊢
                    have HRR : Hid _ := hrr
                    clear hrr
                    obtain ⟨z0, z1, z2, z3, z4⟩ := box5 B1
                    clear B1
                    have HO1 : Hid (OwnG elK (w1.alloc (.cells (elK.f ⟨1, a, s.extract a E, 0, 0, 0⟩).toArray elK.e)) (.slice oo acc.length cc) acc) := (H1.out.1.keep HF1.out).keep ((Fr.refl no _).alloc _ _)
                    go_wp2_with (at_builtin; refine wpList_apdG elK_ok _ rfl rfl _ _ rfl (.slice oo acc.length cc) acc rfl HO1.out _ rfl [⟨1, a, s.extract a E, 0, 0, 0⟩] (srcG_one elK_ok w1 ⟨1, a, s.extract a E, 0, 0, 0⟩) (by simp; omega) ?_; intro v' w3 o3 s3; obtain ⟨n3, f3⟩ := NewV.step (S := no) H1.out.2.1 (((H1.out.2.2).and HF1.out).alloc _ _) s3; have H3 : Hid (OwnG elK w3 v' (acc ++ [⟨1, a, s.extract a E, 0, 0, 0⟩]) ∧ NewV w v' ∧ Fr no w w3) := ⟨o3, n3, f3⟩; clear o3 n3 f3 s3)
                    go_roundw
                    case rel => exact ⟨k, E, acc ++ [⟨1, a, s.extract a E, 0, 0, 0⟩], rfl, by omega, by have := HAE2.out; simp; omega, H3.out.1, H3.out.2.1, H3.out.2.2, ⟨by have := HL.out.1; have := HAE2.out; omega, HGG.out⟩⟩
                    case measure => have := HAE2.out; simp [intOf]; omega
                  · rw [hw] at HWD HG
                    have HGG : Hid _ := HG
                    clear HG
                    go_wp2_with fail
                    refine (HWD _).mono ?_
                    rintro _ w1 ⟨rfl, F1⟩
                    have B1 := F1.heap (heap_alloc_new wr _) (fun f => f)
                    have HF1 : Hid (Fr no wr w1) := ((Fr.refl no wr).alloc _ _).and F1
                    clear F1
                    generalize hrr : wr.heap.size = r at B1 ⊢
                    have HRR : Hid _ := hrr
                    clear hrr
                    obtain ⟨z0, z1, z2, z3, z4⟩ := box5 B1
                    have fz := fun o => frozen_at (o := o) B1
                    have HF2 : Hid (Fr no wr (w1.setCell ⟨r, 0, none⟩ (.int .i64 2))) := HF1.out.newBk (fr_set w1 r 0 _) (Nat.le_of_eq HRR.out)
                    clear B1
                    have HO1 : Hid (OwnG elK ((w1.setCell ⟨r, 0, none⟩ (.int .i64 2)).alloc (.cells (elK.f ⟨2, a, s.extract a E, 0, 0, 0⟩).toArray elK.e)) (.slice oo acc.length cc) acc) := (H1.out.1.keep HF2.out).keep ((Fr.refl no _).alloc _ _)
                    go_wp2_with (at_builtin; refine wpList_apdG elK_ok _ rfl rfl _ _ rfl (.slice oo acc.length cc) acc rfl HO1.out _ rfl [⟨2, a, s.extract a E, 0, 0, 0⟩] (srcG_oneN elK_ok (w1.setCell ⟨r, 0, none⟩ (.int .i64 2)) _ (by simp [World.setCell]) ⟨2, a, s.extract a E, 0, 0, 0⟩) (by simp; omega) ?_; intro v' w3 o3 s3; obtain ⟨n3, f3⟩ := NewV.step (S := no) H1.out.2.1 (((H1.out.2.2).and HF2.out).alloc _ _) s3; have H3 : Hid (OwnG elK w3 v' (acc ++ [⟨2, a, s.extract a E, 0, 0, 0⟩]) ∧ NewV w v' ∧ Fr no w w3) := ⟨o3, n3, f3⟩; clear o3 n3 f3 s3)
                    go_roundw
                    case rel => exact ⟨k, E, acc ++ [⟨2, a, s.extract a E, 0, 0, 0⟩], rfl, by omega, by have := HAE2.out; simp; omega, H3.out.1, H3.out.2.1, H3.out.2.2, ⟨by have := HL.out.1; have := HAE2.out; omega, HGG.out⟩⟩
                    case measure => have := HAE2.out; simp [intOf]; omega
                · have HR2 := lexF_bad HL.out.2 hlt (HOO.out.trans (if_pos (by omega))) (by decide)
                  subst HR2
                  go_wp2_with fail
                  refine bodyPost_ret (results_tmp3 rfl _ _ _) rfl ?_
                  exact ⟨_, rfl, ⟨OwnG.nil _ _, NewV.nil _⟩, H1.out.2.2⟩
      · rw [hb] at BL
        have HG : Hid (lexF s (k + 1) (a + 1) acc = R) := by
          have h := lexF_go HL.out.2 hlt (b := a + 1) (m := []) (by unfold one; rw [HA.out, if_pos hb])
          rwa [List.append_nil] at h
        go_wp2_with fail
        refine BL.mono ?_
        rintro _ _ ⟨rfl, rfl⟩
        go_wp2_with fail
        go_roundw
        case rel => exact ⟨k, a + 1, acc, by congr 1, by omega, by omega, H1.out.1, H1.out.2.1, H1.out.2.2, ⟨by have := HL.out.1; omega, HG.out⟩⟩
        case measure => simp [intOf]; omega
    · have hlt' : ¬ (a : Int) < (s.size : Int) := by omega
      have HE := lexF_end HL.out.2 hlt
      subst HE
      have HO1 : Hid (OwnG elK (wr.alloc (.cells (elK.f ⟨6, s.size, ⟨#[]⟩, 0, 0, 0⟩).toArray elK.e)) (.slice oo acc.length cc) acc) := H1.out.1.keep ((Fr.refl no _).alloc _ _)
      go_wp2_with (at_builtin; refine wpList_apdG elK_ok _ rfl rfl _ _ rfl (.slice oo acc.length cc) acc rfl HO1.out _ rfl [⟨6, s.size, ⟨#[]⟩, 0, 0, 0⟩] (srcG_one elK_ok wr ⟨6, s.size, ⟨#[]⟩, 0, 0, 0⟩) (by simp; omega) ?_; intro v' w3 o3 s3)
      obtain ⟨n3, f3⟩ := NewV.step (S := no) H1.out.2.1 ((H1.out.2.2).alloc _ _) s3
      refine bodyPost_ret (results_tmp3 rfl _ _ _) rfl ?_
      exact ⟨_, rfl, ⟨o3, n3⟩, f3⟩
end Go.Proofs.Ytmpahllkbpofnaa
