/- What the document's own Put writes. -/
import Derived.Test.YthncdbobjeeeaaaGreatDoorPuts
namespace Go.Proofs.YthncdbobjeeeaaaGreatDoor
open Go.ChangeShapes Go.WideShapes Go.ChangeAt Go.RowKit

theorem Sp.first {q : Nat → Prop} {w w1 w2 : World} {v1 v2 : Value} (h : Sp q nv w v1 w1) (k : Sp q v1 w1 v2 w2) : Sp q nv w v2 w2 := h.trans k

set_option maxRecDepth 100000 in
set_option maxHeartbeats 2000000 in
theorem docPut_any (w : World) (v : Value) (l : List (Int × Int)) (h : SlI w v l) :
    Calls Tryz.prog 86 #[v] w fun e w' => ∃ v', e = .returned (.tuple #[v', .int .i64 (ptE l : Int)]) ∧ Own w' v' (ptB l) ∧ Fr no w w' := by
  obtain ⟨ad, cap, rfl, hcap, hmx, hit⟩ := h
  unfold maxLen at hmx
  have HI : Hid (∀ (i : Nat) (x : Int × Int), l[i]? = some x → ∃ b off, ad = some ⟨b, off, none⟩ ∧ w.cell? ⟨b, off + i * 2, none⟩ = some (.int .i64 x.1) ∧ w.cell? ⟨b, off + i * 2 + 1, none⟩ = some (.int .i64 x.2)) := hit
  clear hit
  by_cases h200 : 200 < l.length
  · have HE : Hid (ptE l = 32) := by show _ = _; unfold ptE; rw [if_pos h200]
    have HB : Hid (ptB l = []) := by show _ = _; unfold ptB; rw [if_neg (by omega)]
    go_enter Tryz.func86, Tryz.ntmps86
    go_wp2_with fail
    go_ret2
    rw [HE.out, HB.out]
    exact ⟨_, rfl, Own.nil _, Fr.refl _ _⟩
  · go_enter Tryz.func86, Tryz.ntmps86
    go_wp2_with fail
    refine (ref_uint w nv [] (Own.nil w) (by simp) l.length (by omega)).mono ?_
    rintro e w1 ⟨v1, rfl, o1, s1⟩
    rw [List.nil_append] at o1
    go_wp2_with fail
    go_loopw [4, 5] (fun s i wr => ∃ (k : Nat), i = .int .i64 (k : Int) ∧ k ≤ l.length ∧ allIs (l.take k) = true ∧ Own wr s (enc l.length ++ wri (l.take k)) ∧ Sp no nv w s wr) (fun _ i _ => l.length - (intOf i).toNat)
    case atStart => exact ⟨0, rfl, Nat.zero_le _, rfl, by simpa [wri] using o1, s1⟩
    case round =>
      obtain ⟨k, rfl, hk, hall, ho, hs⟩ := hrel
      have HA : Hid (allIs (l.take k) = true) := hall
      clear hall o1 s1
      have hwl := wri_length (l.take k)
      have hel := enc_length l.length
      have htl : (l.take k).length ≤ 200 := by rw [List.length_take]; omega
      by_cases hlt : k < l.length
      · obtain ⟨⟨op, a⟩, hx⟩ : ∃ x, l[k]? = some x := ⟨_, List.getElem?_eq_getElem hlt⟩
        obtain ⟨b, off, rfl, c0', c1'⟩ := HI.out k _ hx
        have c0 := hs.fresh.1.cell c0' (fun f => f)
        have c1 := hs.fresh.1.cell c1' (fun f => f)
        have HX : Hid (l[k]? = some (op, a)) := hx
        have HC : Hid (w.cell? ⟨b, off + k * 2, none⟩ = some (.int .i64 op) ∧ w.cell? ⟨b, off + k * 2 + 1, none⟩ = some (.int .i64 a)) := ⟨c0', c1'⟩
        clear c0' c1' hx
        simp only [] at c0 c1
        have I := docIs_any wr op a
        unfold ins at I
        by_cases hi : isb op a = true
        · rw [hi] at I
          obtain ⟨n, m, hn, rfl, rfl, hm⟩ := isb_in op a hi
          have hc8 : IntKind.u8.wrap (n : Int) = (n : Int) := by simp [IntKind.wrap, IntKind.signed, IntKind.bits]; omega
          have hsz : (enc l.length ++ wri (l.take k)).length + 11 ≤ 1099511627776 := by rw [List.length_append]; omega
          have HN : Hid (allIs (l.take (k + 1)) = true) := by
            show _ = _
            rw [take_next l k _ HX.out]
            unfold allIs at HA ⊢
            rw [List.all_append, HA.out]
            simp [hi]
          have HL : Hid (enc l.length ++ wri (l.take (k + 1)) = (enc l.length ++ wri (l.take k)) ++ one ((n : Int), (m : Int))) := by
            show _ = _
            rw [take_next l k _ HX.out, wri_append, ← List.append_assoc]
            simp [wri]
          generalize enc l.length ++ wri (l.take k) = L at *
          clear hwl hel htl
          go_wp2_with fail
          refine I.mono ?_
          rintro e w3 ⟨rfl, f3⟩
          have d0 := f3.cell c0 (fun f => f)
          have d1 := f3.cell c1 (fun f => f)
          have o3 := ho.kept f3 (fun _ _ f => f)
          have s3 := hs.then f3 (fun _ _ f => f)
          have hS := src_one w3 n
          have o4 := own_alloc o3 #[.int .u8 ((n : Nat) : Int)] 5
          have s4 := s3.then ((Fr.refl no w3).alloc #[.int .u8 ((n : Nat) : Int)] 5) (fun _ _ f => f)
          have hbb : L.length + ([n] : List Nat).length ≤ 1099511627776 := by simp; omega
          have FC : Hid (∀ w5 : World, ∀ u5 : Value, Sp no u4 (w3.alloc (.cells #[.int .u8 ((n : Nat) : Int)] 5)) u5 w5 → w5.cell? ⟨b, off + k * 2, none⟩ = some (.int .i64 (n : Int)) ∧ w5.cell? ⟨b, off + k * 2 + 1, none⟩ = some (.int .i64 (m : Int)) ∧ Sp no nv w u5 w5) := by
            intro w5 u5 s5
            have f5 := (s4.trans s5).fresh.1
            exact ⟨f5.cell HC.out.1 (fun f => f), f5.cell HC.out.2 (fun f => f), s4.trans s5⟩
          clear ho hs o3 s3 s4 c0 c1 I f3
          obtain ⟨uo, un, uc, eu⟩ := o4.form
          subst eu
          rcases od_cases (n : Int) with e | e | ⟨e1, e2⟩
          · rw [od_in n hn] at e
            have := opd_bounds n hn
            omega
          · have HO : Hid (one ((n : Int), (m : Int)) = [n]) := by show _ = _; unfold one; simp [e]
            go_wp2_with (at_builtin; refine wpList_apd _ rfl rfl (.tmp 25) (.tmp 32) 22 rfl _ L rfl o4 _ rfl [n] hS hbb ?_; intro u5 w5 o5 s5; obtain ⟨e0, e1, s5'⟩ := FC.out w5 u5 s5; obtain ⟨uo', un', uc', eu'⟩ := o5.form; subst eu')
            have O := docOperand_any w5 (n : Int)
            rw [e] at O
            clear e
            refine O.mono ?_
            rintro e w6 ⟨rfl, rfl⟩
            go_wp2_with fail
            go_roundw
            case rel => exact ⟨k + 1, by go_num, by omega, HN.out, by rw [HL.out, HO.out]; exact o5, s5'⟩
            case measure => simp [intOf]; omega
          · have HO : Hid (one ((n : Int), (m : Int)) = [n] ++ enc m) := by show _ = _; unfold one; simp [e1]
            go_wp2_with (at_builtin; refine wpList_apd _ rfl rfl (.tmp 25) (.tmp 32) 22 rfl _ L rfl o4 _ rfl [n] hS hbb ?_; intro u5 w5 o5 s5; obtain ⟨e0, e1, s5'⟩ := FC.out w5 u5 s5; obtain ⟨uo', un', uc', eu'⟩ := o5.form; subst eu')
            have O := docOperand_any w5 (n : Int)
            generalize od (n : Int) = z at *
            refine O.mono ?_
            rintro e w6 ⟨rfl, rfl⟩
            go_wp2_with fail
            refine (ref_uint w6 _ _ o5 (by simp; omega) m (by omega)).mono ?_
            rintro e w7 ⟨u7, rfl, o7, s7⟩
            go_wp2_with fail
            go_roundw
            case rel => exact ⟨k + 1, by go_num, by omega, HN.out, by rw [HL.out, HO.out, ← List.append_assoc]; exact o7, s5'.trans s7⟩
            case measure => simp [intOf]; omega
        · have hi' : isb op a = false := by simpa using hi
          rw [hi'] at I
          have hno : allIs l = false := by
            unfold allIs
            rw [List.all_eq_false]
            exact ⟨_, List.mem_of_getElem? HX.out, by simpa using hi'⟩
          have HE : Hid (ptE l = 40) := by show _ = _; unfold ptE; rw [if_neg h200, if_neg (by simp [hno])]
          have HB : Hid (ptB l = []) := by show _ = _; unfold ptB; rw [if_neg (by simp [hno])]
          clear hno hi hi'
          go_wp2_with fail
          refine I.mono ?_
          rintro e w3 ⟨rfl, f3⟩
          go_wp2_with fail
          go_ret2
          rw [HE.out, HB.out]
          exact ⟨_, rfl, Own.nil _, hs.fresh.1.new f3 (fun _ _ f => f)⟩
      · have hkl : k = l.length := by omega
        subst hkl
        rw [List.take_length] at ho HA
        have HE : Hid (ptE l = 0) := by show _ = _; unfold ptE; rw [if_neg h200, if_pos HA.out]
        have HB : Hid (ptB l = enc l.length ++ wri l) := by show _ = _; unfold ptB; rw [if_pos ⟨by omega, HA.out⟩]
        go_wp2_with fail
        go_ret2
        rw [HE.out, HB.out]
        exact ⟨_, rfl, ho, hs.fresh.1⟩
end Go.Proofs.YthncdbobjeeeaaaGreatDoor
