/- The statement on an arena that is filled and emptied: it returns true. -/
import Derived.Test.YtmoejipmiicgpaaAp
import Derived.Test.YtmoejipmiicgpaaKn
import Derived.Test.YtmoejipmiicgpaaBq
import Derived.Test.YtmoejipmiicgpaaAb
import Derived.Test.YtmoejipmiicgpaaLift
namespace Go.Proofs.Ytmoejipmiicgpaa
open Go.ChangeShapes Go.WideShapes Go.ChangeAt Go.RowKit

set_option maxRecDepth 100000 in
set_option maxHeartbeats 4000000 in
theorem again_any (w : World) (n : Nat) (v : Value) (l : List Nat) (hn : n < 256) (hv : RdG elY w v l) (hb : ∀ c ∈ l, c < 256) :
    Calls Try.prog 7 #[.int .u8 (n : Int), v] w fun e w' => e = .returned (.bool true) ∧ Fr no w w' := by
  have KN := known_any w
  have e30 : (n : Int) % 30 = ((n % 30 : Nat) : Int) := by omega
  have h30 : n % 30 < 30 := Nat.mod_lt _ (by omega)
  obtain ⟨ov, cv, hvf⟩ := hv.form
  have HV : Hid (RdG elY w v l) := hv
  have HB : Hid (∀ c ∈ l, c < 256) := hb
  subst hvf
  generalize n % 30 = n1 at *
  generalize hln : l.length = ln at *
  clear hv hb
  by_cases hbig : 40 < ln
  · go_enter Try.func7, Try.ntmps7
    go_wp2_with fail
    refine KN.mono ?_
    rintro e w1 ⟨rfl, f1⟩
    have hb' : (40 : Int) < (ln : Int) := by omega
    have F1 : Hid (Fr no w w1) := f1
    clear f1
    go_wp2_with fail
    go_ret
    exact ⟨rfl, F1.out⟩
  · have hb' : ¬ ((40 : Int) < (ln : Int)) := by omega
    go_enter Try.func7, Try.ntmps7
    go_wp2_with fail
    refine KN.mono ?_
    rintro e w1 ⟨rfl, f1⟩
    have F1 : Hid (Fr no w w1) := f1
    have NW : Calls Try.prog 9 #[.int .i64 200] w1 (NewAt w1 200) := new_any w1 200
    clear f1 KN
    go_wp2_with fail
    refine NW.mono ?_
    rintro e w2 ⟨rfl, h2, f2⟩
    have H2 : Hid (AB w w2 (w1.heap.size + 1) w1.heap.size (newB 200) (.slice none 0 0) []) := ⟨h2, OwnG.nil _ _, NewV.nil _, F1.out.and f2⟩
    have HG : Hid (w.heap.size ≤ w1.heap.size) := F1.out.size
    clear h2 f2 NW F1
    generalize w1.heap.size + 1 = p at *
    generalize w1.heap.size = g at *
    go_wp2_with fail
    go_loopw [6, 7] (fun lv i wr => ∃ (j : Nat) (bs : List Blk), i = .int .i64 (j : Int) ∧ j ≤ n1 ∧ Row2 j bs ∧ (objsA 0 bs).length = j ∧ AB w wr p g bs lv (objsA 0 bs)) (fun _ i _ => n1 - (intOf i).toNat)
    case atStart => exact ⟨0, _, rfl, Nat.zero_le _, row2_new, rfl, H2.out⟩
    case round =>
      obtain ⟨j, bs, rfl, hj, hrow, hjl, hab⟩ := hrel
      by_cases hlt : j < n1
      · obtain ⟨o, hr, hnx, hob⟩ := row2_next hrow (by omega) (j % 5) (by omega)
        have AL := alloc_nat wr p g bs hab.hp 1 (j % 5) (by decide)
        rw [hr] at AL
        simp only [rmA, errM, Option.isSome_some, if_true] at AL
        have HX : Hid (Row2 (j + 1) (allocB 1 (j % 5) bs) ∧ objsA 0 (allocB 1 (j % 5) bs) = objsA 0 bs ++ [(o : Int) + 1] ∧ AB w wr p g bs u6 (objsA 0 bs) ∧ (objsA 0 bs).length = j) := ⟨hnx, hob, hab, hjl⟩
        have ht : (j : Int) < (n1 : Int) := by omega
        have e5 : (j : Int) % 5 = ((j % 5 : Nat) : Int) := by omega
        have t5 : Int.tmod (j : Int) 5 = ((j % 5 : Nat) : Int) := by rw [Int.tmod_eq_emod_of_nonneg (by omega)]; omega
        clear hr hnx hab hob hrow hjl
        generalize j % 5 = j5 at *
        go_wp2_with fail
        refine AL.mono ?_
        rintro e w3 ⟨rfl, h3, f3⟩
        have H3 : Hid (AB w (w3.alloc (.cells (elI.f ((o : Int) + 1)).toArray elI.e)) p g (allocB 1 j5 bs) u6 (objsA 0 bs)) := (HX.out.2.2.1.turn HG.out h3 f3).more ((Fr.refl no w3).alloc _ _)
        clear h3 f3 AL
        go_wp2_with (at_builtin; refine wpList_apdG elI_ok _ rfl rfl _ _ rfl u6 (objsA 0 bs) rfl H3.out.own _ rfl [(o : Int) + 1] (srcG_one elI_ok w3 ((o : Int) + 1)) (by rw [HX.out.2.2.2]; simp; omega) ?_; intro v' w4 o4 s4)
        have H4 : Hid (AB w w4 p g (allocB 1 j5 bs) v' (objsA 0 bs ++ [(o : Int) + 1])) := H3.out.grow o4 s4
        clear o4 s4 H3
        go_roundw
        case rel => exact ⟨j + 1, _, by go_num, by omega, HX.out.1, by rw [HX.out.2.1]; simp [HX.out.2.2.2], by rw [HX.out.2.1]; exact H4.out⟩
        case measure => simp [intOf]; omega
      · obtain rfl : j = n1 := by omega
        have H3 : Hid ((tight false bs = true ∧ siz bs = 200) ∧ (objsA 0 bs).length = j ∧ AB w wr p g bs u6 (objsA 0 bs)) := ⟨row2_tight hrow, hjl, hab⟩
        clear hrow hjl hab
        go_wp2_with fail
        clear e30
        go_loopw [6, 10] (fun lv i wr => ∃ (t : Nat) (bs : List Blk), i = .int .i64 (t : Int) ∧ t + (objsA 0 bs).length ≤ 30 ∧ (tight false bs = true ∧ siz bs = 200) ∧ AB w wr p g bs lv (objsA 0 bs)) (fun lv _ _ => lenOf lv)
        case atStart => exact ⟨0, _, rfl, by rw [H3.out.2.1]; omega, H3.out.1, H3.out.2.2⟩
        case round =>
          clear H3
          obtain ⟨t, bs, rfl, htl, hts, hab⟩ := hrel
          --LOOP2
          have HAB0 : Hid (AB w wr p g bs u6 (objsA 0 bs)) := hab
          have HTS : Hid (tight false bs = true ∧ siz bs = 200) := hts
          have HXB : Hid (∀ x ∈ objsA 0 bs, x ≤ 200) := fun x hx => by
            rw [objsA_eq, List.mem_map] at hx
            obtain ⟨y, hy, rfl⟩ := hx
            have := (objL_mem hy).2
            rw [hts.2] at this
            omega
          generalize hL : (objsA 0 bs).length = L at *
          clear hts
          by_cases hpos : 0 < L
          · obtain ⟨gg, oo, lc, hu6⟩ : ∃ gg oo lc, u6 = .slice (some ⟨gg, oo, none⟩) L lc := by
              rcases hab.own with ⟨_, h0⟩ | ⟨gg, oo, lc, cur, hu, _⟩
              · rw [h0] at hL
                simp at hL
                omega
              · exact ⟨gg, oo, lc, by rw [hu, hL]⟩
            subst hu6
            have HAB : Hid (AB w wr p g bs (.slice (some ⟨gg, oo, none⟩) L lc) (objsA 0 bs)) := hab
            clear hab HAB0
            have hp0 : (0 : Int) < (L : Int) := by omega
            by_cases hti : t < ln
            · obtain ⟨y, hy⟩ : ∃ y, l[t]? = some y := ⟨_, List.getElem?_eq_getElem (by omega)⟩
              have hy256 := HB.out y (List.mem_of_getElem? hy)
              obtain ⟨ad, cp, he, -, -, hit⟩ := HV.out.keep HAB.out.fr
              obtain ⟨b0, o0, hb0, hc0⟩ := hit t y hy
              have hov : ov = some ⟨b0, o0, none⟩ := by
                simp only [Value.slice.injEq] at he
                rw [he.1, hb0]
              subst hov
              have hcy : wr.cell? ⟨b0, o0 + t, none⟩ = some (.int .u8 (y : Int)) := by
                have := hc0 0 _ rfl
                simpa [elY] using this
              have hti' : (t : Int) < (ln : Int) := by omega
              have hzl : ¬ ((L : Int) = 0) := by omega
              have ey : Int.tmod (y : Int) (L : Int) = ((y % L : Nat) : Int) := by
                rw [Int.tmod_eq_emod_of_nonneg (by omega)]
                exact (Int.natCast_emod y L).symm
              have hkk : y % L < L := Nat.mod_lt _ (by omega)
              clear he hit hb0 hc0 hy
              generalize y % L = kk at *
              obtain ⟨x, hx⟩ : ∃ x, (objsA 0 bs)[kk]? = some x := ⟨_, List.getElem?_eq_getElem (by omega)⟩
              obtain ⟨fb, fc⟩ := free_cut hx
              obtain ⟨f1, f2, -, -⟩ := free_some fb
              have RL := release_any wr p g bs HAB.out.hp x (by have := HXB.out x (List.mem_of_getElem? hx); omega)
              rw [fb] at RL
              simp only [errA, if_true] at RL
              have HFC : Hid (objsA 0 (freeB bs x) = (objsA 0 bs).take kk ++ (objsA 0 bs).drop (kk + 1) ∧ (tight false (freeB bs x) = true ∧ siz (freeB bs x) = 200)) := ⟨fc, f2, by rw [f1, HTS.out.2]⟩
              have hlx : wr.cell? ⟨gg, oo + kk, none⟩ = some (.int .i64 x) := by
                have ho := HAB.out.own
                have := ho.cells kk (.int .i64 x) (by have := cg_get elI_ok (objsA 0 bs) kk x hx 0 (.int .i64 x) rfl; simpa [elI] using this)
                exact this
              have hkki : (kk : Int) < (L : Int) := by omega
              clear fb fc f1 f2 hx
              go_wp2_with fail
              refine RL.mono ?_
              rintro e w5 ⟨rfl, h5, f5⟩
              have HA5 : Hid (AB w w5 p g (freeB bs x) (.slice (some ⟨gg, oo, none⟩) L lc) (objsA 0 bs)) := HAB.out.turn HG.out h5 f5
              clear h5 f5 RL hlx
              obtain ⟨a5, n5, c5, sv1, sv2, e5, r1, r2, q1, q2, s1, FIN⟩ := drop_one HA5.out kk (by rw [hL]; exact hkk) (by omega)
              have HFIN : Hid (∀ v1 w1, OwnG elI w1 v1 ([] ++ (objsA 0 bs).take kk) → Sp (.slice none 0 0) w5.drew v1 w1 → Src Try.prog 1 52 sv2 ((objsA 0 bs).drop (kk + 1)).length (cg elI ((objsA 0 bs).drop (kk + 1))) w1 ∧ ∀ v2 w2, OwnG elI w2 v2 (([] ++ (objsA 0 bs).take kk) ++ (objsA 0 bs).drop (kk + 1)) → Sp v1 w1 v2 w2 → AB w w2 p g (freeB bs x) v2 ((objsA 0 bs).take kk ++ (objsA 0 bs).drop (kk + 1))) := FIN
              have HS1 : Hid (Src Try.prog 1 52 sv1 ((objsA 0 bs).take kk).length (cg elI ((objsA 0 bs).take kk)) w5.drew) := s1
              clear FIN s1 e5
              have hla : ([] : List Int).length + ((objsA 0 bs).take kk).length ≤ 1000000 := by simp <;> omega
              have hlb : ([] ++ (objsA 0 bs).take kk).length + ((objsA 0 bs).drop (kk + 1)).length ≤ 1000000 := by simp <;> omega
              have hwp : IntKind.i64.wrap ((kk : Int) + 1) = (kk : Int) + 1 := by rw [IntKind.wrap_i64]; omega
              go_wp2_with fail
              go_region_law (first | (refine step_apdG elI_ok w5.drew rfl rfl (.const (.slice none 0 0)) (.tmp 64) rfl (.slice none 0 0) [] (by kernel_rfl) (OwnG.nil _ _) sv1 (by kernel_rfl) ((objsA 0 bs).take kk) HS1.out hla ?_; intro v1 w6 o6 s6; have HO6 : Hid (OwnG elI w6 v1 ([] ++ (objsA 0 bs).take kk)) := o6; have HS6 := HFIN.out v1 w6 o6 s6; clear o6 s6) | (refine step_apdG elI_ok w6 rfl rfl (.tmp 65) (.tmp 69) rfl v1 ([] ++ (objsA 0 bs).take kk) (by kernel_rfl) HO6.out sv2 (by kernel_rfl) ((objsA 0 bs).drop (kk + 1)) HS6.1 hlb ?_; intro v2 w7 o7 s7; have HA7 : Hid (AB w w7 p g (freeB bs x) v2 ((objsA 0 bs).take kk ++ (objsA 0 bs).drop (kk + 1))) := HS6.2 v2 w7 o7 s7; clear o7 s7))
              obtain ⟨o8, c8, hv8⟩ := HA7.out.own.form
              have hl8 : ((objsA 0 bs).take kk ++ (objsA 0 bs).drop (kk + 1)).length = L - 1 := by simp <;> omega
              rw [hl8] at hv8
              subst hv8
              clear hl8 r1 r2 q1 q2 HS6 HFIN HS1 HO6 hla hlb hwp
              go_wp2_with fail
              go_roundw
              case rel => exact ⟨t + 1, freeB bs x, by go_num, by rw [HFC.out.1]; simp; omega, HFC.out.2, by rw [HFC.out.1]; exact HA7.out⟩
              case measure => simp [lenOf]; omega

            · have hti' : ¬ ((t : Int) < (ln : Int)) := by omega
              have hkk : 0 < L := hpos
              obtain ⟨x, hx⟩ : ∃ x, (objsA 0 bs)[0]? = some x := ⟨_, List.getElem?_eq_getElem (by omega)⟩
              obtain ⟨fb, fc⟩ := free_cut hx
              obtain ⟨f1, f2, -, -⟩ := free_some fb
              have RL := release_any wr p g bs HAB.out.hp x (by have := HXB.out x (List.mem_of_getElem? hx); omega)
              rw [fb] at RL
              simp only [errA, if_true] at RL
              have HFC : Hid (objsA 0 (freeB bs x) = (objsA 0 bs).take 0 ++ (objsA 0 bs).drop (0 + 1) ∧ (tight false (freeB bs x) = true ∧ siz (freeB bs x) = 200)) := ⟨fc, f2, by rw [f1, HTS.out.2]⟩
              have hlx : wr.cell? ⟨gg, oo, none⟩ = some (.int .i64 x) := by
                have ho := HAB.out.own
                have := ho.cells 0 (.int .i64 x) (by have := cg_get elI_ok (objsA 0 bs) 0 x hx 0 (.int .i64 x) rfl; simpa [elI] using this)
                exact this
              have hkki : (0 : Int) < (L : Int) := by omega
              clear fb fc f1 f2 hx
              go_wp2_with fail
              refine RL.mono ?_
              rintro e w5 ⟨rfl, h5, f5⟩
              have HA5 : Hid (AB w w5 p g (freeB bs x) (.slice (some ⟨gg, oo, none⟩) L lc) (objsA 0 bs)) := HAB.out.turn HG.out h5 f5
              clear h5 f5 RL hlx
              obtain ⟨a5, n5, c5, sv1, sv2, e5, r1, r2, q1, q2, s1, FIN⟩ := drop_one HA5.out 0 (by rw [hL]; exact hkk) (by omega)
              have HFIN : Hid (∀ v1 w1, OwnG elI w1 v1 ([] ++ (objsA 0 bs).take 0) → Sp (.slice none 0 0) w5.drew v1 w1 → Src Try.prog 1 52 sv2 ((objsA 0 bs).drop (0 + 1)).length (cg elI ((objsA 0 bs).drop (0 + 1))) w1 ∧ ∀ v2 w2, OwnG elI w2 v2 (([] ++ (objsA 0 bs).take 0) ++ (objsA 0 bs).drop (0 + 1)) → Sp v1 w1 v2 w2 → AB w w2 p g (freeB bs x) v2 ((objsA 0 bs).take 0 ++ (objsA 0 bs).drop (0 + 1))) := FIN
              have HS1 : Hid (Src Try.prog 1 52 sv1 ((objsA 0 bs).take 0).length (cg elI ((objsA 0 bs).take 0)) w5.drew) := s1
              clear FIN s1 e5
              simp only [Int.natCast_zero, Int.zero_add] at r1 r2 q1 q2
              have hla : ([] : List Int).length + ((objsA 0 bs).take 0).length ≤ 1000000 := by simp <;> omega
              have hlb : ([] ++ (objsA 0 bs).take 0).length + ((objsA 0 bs).drop (0 + 1)).length ≤ 1000000 := by simp <;> omega
              have hwp : IntKind.i64.wrap 1 = 1 := by rw [IntKind.wrap_i64]; omega
              go_wp2_with fail
              go_region_law (first | (refine step_apdG elI_ok w5.drew rfl rfl (.const (.slice none 0 0)) (.tmp 64) rfl (.slice none 0 0) [] (by kernel_rfl) (OwnG.nil _ _) sv1 (by kernel_rfl) ((objsA 0 bs).take 0) HS1.out hla ?_; intro v1 w6 o6 s6; have HO6 : Hid (OwnG elI w6 v1 ([] ++ (objsA 0 bs).take 0)) := o6; have HS6 := HFIN.out v1 w6 o6 s6; clear o6 s6) | (refine step_apdG elI_ok w6 rfl rfl (.tmp 65) (.tmp 69) rfl v1 ([] ++ (objsA 0 bs).take 0) (by kernel_rfl) HO6.out sv2 (by kernel_rfl) ((objsA 0 bs).drop (0 + 1)) HS6.1 hlb ?_; intro v2 w7 o7 s7; have HA7 : Hid (AB w w7 p g (freeB bs x) v2 ((objsA 0 bs).take 0 ++ (objsA 0 bs).drop (0 + 1))) := HS6.2 v2 w7 o7 s7; clear o7 s7))
              obtain ⟨o8, c8, hv8⟩ := HA7.out.own.form
              have hl8 : ((objsA 0 bs).take 0 ++ (objsA 0 bs).drop (0 + 1)).length = L - 1 := by simp <;> omega
              rw [hl8] at hv8
              subst hv8
              clear hl8 r1 r2 q1 q2 HS6 HFIN HS1 HO6 hla hlb hwp
              go_wp2_with fail
              go_roundw
              case rel => exact ⟨t + 1, freeB bs x, by go_num, by rw [HFC.out.1]; simp; omega, HFC.out.2, by rw [HFC.out.1]; exact HA7.out⟩
              case measure => simp [lenOf]; omega

          · obtain rfl : L = 0 := by omega
            have hnil : objsA 0 bs = [] := List.eq_nil_of_length_eq_zero hL
            obtain ⟨ou, cu, hu6⟩ := hab.own.form
            rw [hL] at hu6
            subst hu6
            have HFR := no_objs HTS.out.1 hnil HTS.out.2 (by decide)
            have FA := free_any wr p g bs HAB0.out.hp
            rw [HFR] at FA
            have HWR : Hid (Fr no w wr ∧ HP wr p g bs) := ⟨HAB0.out.fr, HAB0.out.hp⟩
            have HNL : Hid (objsA 0 bs = []) := hnil
            clear hab HAB0 hnil HFR
            go_wp2_with fail
            refine FA.mono ?_
            rintro e w5 ⟨v5, rfl, o5, n5, f5⟩
            have H5 : Hid (OwnG elB w5 v5 [(1, 200)] ∧ Fr no wr w5) := ⟨o5, f5⟩
            clear o5 n5 f5
            have BK := blocks_any (w5.alloc (.cells (elB.f (1, 200)).toArray elB.e)) v5 (.slice (some ⟨w5.heap.size, 0, none⟩) 1 1) [(1, 200)] [(1, 200)] ((H5.out.1.keep ((Fr.refl no w5).alloc _ _)).sl) ((own_lit elB_ok w5 [(1, 200)] _ rfl (by unfold maxLen; decide)).sl)
            go_wp2_with fail
            refine BK.mono ?_
            rintro e w6 ⟨rfl, m6, hw6⟩
            have H6 : Hid (Fr no w w6 ∧ HP w6 p g bs) := by
              have f6 : Fr no wr w6 := by rw [hw6]; exact (H5.out.2.alloc _ _).drewN m6
              exact ⟨HWR.out.1.and f6, HWR.out.2.keep f6⟩
            have AA := all_any w6 p g bs H6.out.2
            rw [HNL.out] at AA
            clear hw6 BK
            have hsame : sameB [(1, 200)] [(1, 200)] = true := by decide
            rw [hsame]
            go_wp2_with fail
            refine AA.mono ?_
            rintro e w7 ⟨v7, rfl, o7, n7, f7⟩
            obtain ⟨ou7, cu7, rfl⟩ := o7.form
            have H7 : Hid (Fr no w w7) := H6.out.1.and f7
            clear o7 n7 f7
            go_wp2_with fail
            go_ret
            exact ⟨rfl, H7.out⟩
end Go.Proofs.Ytmoejipmiicgpaa
