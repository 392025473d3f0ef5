/- The document's End. -/
import Derived.Test.YtancclmnliiijaaDb
namespace Go.Proofs.Ytancclmnliiijaa
open Go.ChangeShapes Go.WideShapes Go.ChangeAt Go.RowKit

section
variable {c : Nat} {w : World} {q : Nat} {L : List (Int × Int)} {o : Option Addr} {cap : Nat}

/-- A row of numbers lies elsewhere. -/
theorem DX.row {w' : World} {v v' : Value} {l : List Int} (h : DX c w q L o cap) (ho : OwnG elI w v l) (s : Sp v w v' w') : DX c w' q L o cap := by
  refine ⟨h.cq, s.1.heap h.blk (fun e => ?_), h.own.kept s.1 (fun k hk e => ?_), h.cb, h.le⟩
  · obtain ⟨cur, hc⟩ := ho.tag e
    rw [h.blk] at hc
    simp [elI] at hc
  · obtain ⟨cur, hc⟩ := ho.tag e
    obtain ⟨cur', hc'⟩ := h.own.tag hk
    rw [hc'] at hc
    simp [elI, elD] at hc

set_option maxRecDepth 100000 in
set_option maxHeartbeats 1000000 in
theorem dend_any (h : DS c w q L) (id : Int) (hid : In id) : Calls Try.prog 16 #[.pointer (some ⟨q, 0, none⟩), .int .i64 id] w fun e w' => ∃ o k cp, e = .returned (.tuple #[.slice o k cp, .int .i64 (endE L.length L id)]) ∧ OwnG elI w' (.slice o k cp) (endL L.length L id) ∧ NewV w (.slice o k cp) ∧ DS c w' q (endD L.length L id) ∧ Fr (Tk [29, 65] c w) w w' := by
  have ST := dstate_any h id hid
  by_cases h1 : stA L.length L id = 1
  · obtain ⟨i0, x, rfl, hi, hx, hxs⟩ := stA_there (Nat.le_refl L.length) (id := id) (fun e => by omega)
    have HZ : Hid (endE L.length L ((i0 : Int) + 1) = 0 ∧ endL L.length L ((i0 : Int) + 1) = sel (jn ((i0 : Int) + 1)) (L.set i0 (5, x.2)) L.length ∧ endD L.length L ((i0 : Int) + 1) = upto (fre' ((i0 : Int) + 1)) L.length (L.set i0 (5, x.2))) := by
      simp [Hid, endE, endL, endD, endQ, end1, h1, plc_eq hx]
    rw [h1] at ST
    obtain ⟨ad, cap, k⟩ := h.get
    have hc := k.cell
    obtain ⟨b, r, rfl, c0, -, hz⟩ := k.at hx
    have HX1 : Hid _ := k.put1 hx 5
    have HF1 : Hid (Fr (Tk [29, 65] c w) w (w.setCell ⟨b, r + i0 * 2, none⟩ (.int .i64 5))) := (Fr.refl _ w).setCell (fun _ => k.tp) _
    have HTP : Hid (Tk [29, 65] c w b) := k.tp
    have hle := k.le
    have hil : (i0 : Int) < (L.length : Int) := by omega
    have hn1 : (L.set i0 (5, x.2)).length = L.length := by simp
    clear h k hx h1 hxs
    go_enter Try.func16, Try.ntmps16
    generalize hide : (i0 : Int) + 1 = id at *
    generalize L.set i0 (5, x.2) = L1 at *
    generalize L.length = n at hc hil hle hi hn1 HZ ⊢
    subst hide
    go_wp2_with fail
    refine ST.mono ?_
    rintro _ w1 ⟨rfl, hw1⟩
    subst hw1
    clear ST
    go_upto_block 0 with fail
    revert HZ
    generalize hide : (i0 : Int) + 1 = id at *
    intro HZ
    go_wp2_with fail
    go_loopw [6, 7] (fun lv iv wr => ∃ i : Nat, iv = .int .i64 (i : Int) ∧ i ≤ n ∧ DX c wr q (upto (fre' id) i L1) (some ⟨b, r, none⟩) cap ∧ OwnG elI wr lv (sel (jn id) L1 i) ∧ NewV w1 lv ∧ Fr (Tk [29, 65] c w1) w1 wr) (fun _ iv _ => 20 - (intOf iv).toNat)
    case atStart => exact ⟨0, rfl, Nat.zero_le _, by rw [upto_zero]; exact HX1.out, OwnG.nil _ _, NewV.nil _, HF1.out⟩
    case round =>
      clear HX1 HF1 c0 hz hc
      obtain ⟨i, rfl, hi2, kx, how, hnv, hfr⟩ := hrel
      have hc := kx.cell
      rw [upto_len, hn1] at hc
      have HO : Hid (OwnG elI wr u6 (sel (jn id) L1 i) ∧ NewV w1 u6 ∧ Fr (Tk [29, 65] c w1) w1 wr) := ⟨how, hnv, hfr⟩
      have HK : Hid (DX c wr q (upto (fre' id) i L1) (some ⟨b, r, none⟩) cap) := kx
      clear how hnv hfr kx
      by_cases hin : i < n
      · have hin' : (i : Int) < (n : Int) := by omega
        obtain ⟨⟨x1, x2⟩, hx⟩ : ∃ x, L1[i]? = some x := ⟨_, List.getElem?_eq_getElem (by omega)⟩
        have hxu : (upto (fre' id) i L1)[i]? = some (x1, x2) := by rw [upto_get (Nat.le_refl _)]; exact hx
        obtain ⟨b', r', e', c0, c1, hz⟩ := HK.out.at hxu
        obtain ⟨rfl, rfl⟩ := same_at rfl e'
        clear e'
        simp only [] at c0 c1
        by_cases hs : x1 = 4
        · have hs' : (x1 == 4) = true := by simp [hs]
          by_cases ht : x2 = id
          · have ht' : (x2 == id) = true := by simp [ht]
            have hj : jn id (x1, x2) = true := by simp [jn, hs, ht]
            have HS : Hid (sel (jn id) L1 (i + 1) = sel (jn id) L1 i ++ [(i : Int) + 1]) := sel_yes hx hj
            have HU : Hid (upto (fre' id) (i + 1) L1 = (upto (fre' id) i L1).set i (1, x2)) := by rw [Hid, upto_step hx, fre'_yes hj]
            have hK2 := HK.out.put1 hxu 1
            have hF2 : Fr (fun j => j = b') wr (wr.setCell ⟨b', r' + i * 2, none⟩ (.int .i64 1)) := (Fr.refl (fun j => j = b') wr).setCell (p := ⟨b', r' + i * 2, none⟩) (fun _ => rfl) _
            have hO2 : OwnG elI (wr.setCell ⟨b', r' + i * 2, none⟩ (.int .i64 1)) u6 (sel (jn id) L1 i) := HO.out.1.kept hF2 (fun j hj e => by
              subst e
              obtain ⟨cur, hc⟩ := HO.out.1.tag hj
              obtain ⟨cur', hc'⟩ := HK.out.own.tag (k := j) rfl
              rw [hc'] at hc
              simp [elI, elD] at hc)
            have hFr2 : Fr (Tk [29, 65] c w1) w1 (wr.setCell ⟨b', r' + i * 2, none⟩ (.int .i64 1)) := HO.out.2.2.trans hF2 (fun _ _ f => f) (fun j _ e => by rw [e]; exact HTP.out)
            have HN2 : Hid (NewV w1 u6) := HO.out.2.1
            have HQ : Hid (∀ W2 : World, wr.setCell ⟨b', r' + i * 2, none⟩ (.int .i64 1) = W2 → DX c W2 q (upto (fre' id) (i + 1) L1) (some ⟨b', r', none⟩) cap ∧ OwnG elI W2 u6 (sel (jn id) L1 i) ∧ Fr (Tk [29, 65] c w1) w1 W2) := fun W2 e => by
              subst e
              rw [HU.out]
              exact ⟨hK2, hO2, hFr2⟩
            have HL : Hid ((sel (jn id) L1 i).length + [(i : Int) + 1].length ≤ 1000000) := by
              have := sel_len (jn id) L1 i
              simp only [Hid, List.length_cons, List.length_nil]
              omega
            clear hx hxu hs ht hj hK2 hF2 hO2 hFr2 HK HO HU
            go_upto_region 10 with fail
            generalize hW2 : wr.setCell ⟨b', r' + i * 2, none⟩ (.int .i64 1) = W2 at *
            obtain ⟨q1, q2, q3⟩ := HQ.out W2 rfl
            have HO1 : Hid (OwnG elI (W2.alloc (.cells (elI.f ((i : Int) + 1)).toArray elI.e)) u6 (sel (jn id) L1 i)) := q2.keep ((Fr.refl no W2).alloc _ _)
            have HFR : Hid (Fr (Tk [29, 65] c w1) w1 (W2.alloc (.cells (elI.f ((i : Int) + 1)).toArray elI.e))) := q3.alloc _ _
            have HSR : Hid _ := srcG_one elI_ok W2 ((i : Int) + 1)
            have HPP : Hid (∀ v' w3, Sp u6 (W2.alloc (.cells (elI.f ((i : Int) + 1)).toArray elI.e)) v' w3 → DX c w3 q (upto (fre' id) (i + 1) L1) (some ⟨b', r', none⟩) cap) := fun v' w3 s3 => (q1.keep ((Fr.refl no W2).alloc _ _)).row HO1.out s3
            clear q1 q2 q3 HQ hW2
            go_wp2_with (at_builtin; refine wpList_apdG elI_ok _ rfl rfl _ _ rfl u6 (sel (jn id) L1 i) rfl HO1.out _ rfl [(i : Int) + 1] HSR.out HL.out ?_; intro v' w3 o3 s3; have H3 : Hid (OwnG elI w3 v' (sel (jn id) L1 i ++ [(i : Int) + 1]) ∧ (NewV w1 v' ∧ Fr (Tk [29, 65] c w1) w1 w3) ∧ DX c w3 q (upto (fre' id) (i + 1) L1) (some ⟨b', r', none⟩) cap) := ⟨o3, HN2.out.step HFR.out s3, HPP.out v' w3 s3⟩; clear o3 s3)
            go_roundw
            case rel => exact ⟨i + 1, by go_num, by omega, H3.out.2.2, by rw [HS.out]; exact H3.out.1, H3.out.2.1⟩
            case measure => simp [intOf]; omega
          · have ht' : (x2 == id) = false := by simp [ht]
            have hj : jn id (x1, x2) = false := by simp [jn, ht]
            have HS : Hid (sel (jn id) L1 (i + 1) = sel (jn id) L1 i ∧ upto (fre' id) (i + 1) L1 = upto (fre' id) i L1) := ⟨sel_no hx hj, upto_same hx (fre'_no hj)⟩
            clear hx hxu hs ht hj
            go_wp2_with fail
            go_roundw
            case rel => exact ⟨i + 1, by go_num, by omega, by rw [HS.out.2]; exact HK.out, by rw [HS.out.1]; exact HO.out.1, HO.out.2⟩
            case measure => simp [intOf]; omega
        · have hs' : (x1 == 4) = false := by simp [hs]
          have hj : jn id (x1, x2) = false := by simp [jn, hs]
          have HS : Hid (sel (jn id) L1 (i + 1) = sel (jn id) L1 i ∧ upto (fre' id) (i + 1) L1 = upto (fre' id) i L1) := ⟨sel_no hx hj, upto_same hx (fre'_no hj)⟩
          clear hx hxu hs hj
          go_wp2_with fail
          go_roundw
          case rel => exact ⟨i + 1, by go_num, by omega, by rw [HS.out.2]; exact HK.out, by rw [HS.out.1]; exact HO.out.1, HO.out.2⟩
          case measure => simp [intOf]; omega
      · obtain rfl : i = n := by omega
        obtain ⟨o', c', e⟩ := HO.out.1.form
        have HV : Hid (u6 = _) := e
        go_wp2_with fail
        go_ret2
        refine ⟨o', _, c', by rw [hide, HZ.out.1]; exact congrArg (fun v => Ending.returned (.tuple #[v, .int .i64 0])) HV.out, ?_⟩
        rw [← HV.out, hide, HZ.out.2.1, HZ.out.2.2]
        exact ⟨HO.out.1, HO.out.2.1, HK.out.ds, HO.out.2.2⟩
  · have g1 : (stA L.length L id != 1) = true := by simpa using h1
    have HZ : Hid (endE L.length L id = 140 ∧ endL L.length L id = [] ∧ DS c w q (endD L.length L id)) := by simp [Hid, endE, endL, endD, endQ, h1]; exact h
    clear h h1
    generalize stA L.length L id = sv at *
    go_enter Try.func16, Try.ntmps16
    go_wp2_with fail
    refine ST.mono ?_
    rintro _ w1 ⟨rfl, hw⟩
    subst hw
    clear ST
    go_wp2_with fail
    go_ret2
    exact ⟨none, 0, 0, by rw [HZ.out.1]; rfl, by rw [HZ.out.2.1]; exact OwnG.nil _ _, NewV.nil _, HZ.out.2.2, Fr.refl _ _⟩
end
end Go.Proofs.Ytancclmnliiijaa
