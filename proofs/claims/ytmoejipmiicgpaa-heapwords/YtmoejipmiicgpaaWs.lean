/- The statement on words that stay: it returns true. -/
import Derived.Test.YtmoejipmiicgpaaWp
import Derived.Test.YtmoejipmiicgpaaAb
import Derived.Test.YtmoejipmiicgpaaKn
import Derived.Test.YtmoejipmiicgpaaLift
namespace Go.Proofs.Ytmoejipmiicgpaa
open Go.ChangeShapes Go.WideShapes Go.ChangeAt Go.RowKit

theorem RdG.at_ {K : El Nat} {f : Nat → Value} (hf : ∀ x, K.f x = [f x]) (hn : K.n = 1) {w : World} {o : Option Addr} {n c : Nat} {l : List Nat} (h : RdG K w (.slice o n c) l) {i x : Nat} (hx : l[i]? = some x) : ∃ b off, o = some ⟨b, off, none⟩ ∧ w.cell? ⟨b, off + i, none⟩ = some (f x) := by
  obtain ⟨ad, cap, he, -, -, hit⟩ := h
  obtain ⟨b, off, hb, hc⟩ := hit i x hx
  simp only [Value.slice.injEq] at he
  have := hc 0 (f x) (by rw [hf]; rfl)
  rw [hn, Nat.mul_one, Nat.add_zero] at this
  exact ⟨b, off, by rw [he.1, hb], this⟩

set_option maxRecDepth 100000 in
set_option maxHeartbeats 4000000 in
theorem words_law_any (w : World) (v : Value) (vals : List Nat) (u : Value) (churn : List Nat) (hv : RdG elU w v vals) (hvb : ∀ c ∈ vals, c < 18446744073709551616) (hu : RdG elY w u churn) (hub : ∀ c ∈ churn, c < 256) :
    Calls Try.prog 6 #[v, u] w fun e w' => e = .returned (.bool true) ∧ Fr no w w' := by
  have KN := known_any w
  obtain ⟨ov, cv, hvf⟩ := hv.form
  obtain ⟨ou, cu, huf⟩ := hu.form
  subst hvf huf
  have HV : Hid (RdG elU w (.slice ov vals.length cv) vals) := hv
  have HU : Hid (RdG elY w (.slice ou churn.length cu) churn) := hu
  have HB : Hid (∀ c ∈ churn, c < 256) := hub
  have HVB : Hid (∀ c ∈ vals, c < 18446744073709551616) := hvb
  clear hv hu hub hvb
  generalize hnv : vals.length = nv at *
  generalize hnu : churn.length = nu at *
  by_cases hbig : 30 < nv ∨ 40 < nu
  · by_cases h1 : 30 < nv
    · have h1' : (30 : Int) < (nv : Int) := by omega
      go_enter Try.func6, Try.ntmps6
      go_wp2_with fail
      refine KN.mono ?_
      rintro e w1 ⟨rfl, f1⟩
      have F1 : Hid (Fr no w w1) := f1
      clear f1
      go_wp2_with fail
      go_ret
      exact ⟨rfl, F1.out⟩
    · have h1' : decide ((30 : Int) < (nv : Int)) = false := decide_eq_false (by omega)
      have h2' : (40 : Int) < (nu : Int) := by omega
      go_enter Try.func6, Try.ntmps6
      go_wp2_with fail
      refine KN.mono ?_
      rintro e w1 ⟨rfl, f1⟩
      have F1 : Hid (Fr no w w1) := f1
      clear f1
      go_wp2_with fail
      go_ret
      exact ⟨rfl, F1.out⟩
  · have h1' : decide ((30 : Int) < (nv : Int)) = false := decide_eq_false (by omega)
    have h2' : ¬ ((40 : Int) < (nu : Int)) := by omega
    go_enter Try.func6, Try.ntmps6
    go_wp2_with fail
    refine KN.mono ?_
    rintro e w1 ⟨rfl, f1⟩
    have F1 : Hid (Fr no w w1) := f1
    have NW : Calls Try.prog 9 #[.int .i64 400] w1 (NewAt w1 400) := new_any w1 400
    clear f1 KN
    go_wp2_with fail
    refine NW.mono ?_
    rintro e w2 ⟨rfl, h2, f2⟩
    have HG : Hid (w.heap.size ≤ w1.heap.size) := F1.out.size
    have F2 : Hid (Fr no w w2) := F1.out.and f2
    obtain ⟨n1, n2⟩ := words_new nv (by omega)
    have AL := alloc_nat w2 _ _ _ h2 3 nv (by decide)
    rw [n1] at AL
    simp only [rmA, errM, Option.isSome_some, if_true, Int.natCast_zero, Int.zero_add] at AL
    have HN2 : Hid (objAt (allocB 3 nv (newB 400)) 1 = some (3, List.replicate nv 0)) := n2
    clear h2 f2 NW F1 n1 n2
    generalize w1.heap.size + 1 = p at *
    generalize w1.heap.size = g at *
    go_wp2_with fail
    refine AL.mono ?_
    rintro e w3 ⟨rfl, h3, f3⟩
    have H3 : Hid (HP w3 p g (allocB 3 nv (newB 400)) ∧ Fr no w w3) := ⟨h3, F2.out.new f3 (fun i hi e => by have := HG.out; omega)⟩
    clear h3 f3 AL F2
    go_wp2_with fail
    go_loopw [7, 8] (fun e i wr => ∃ (j : Nat) (bs : List Blk), e = .int .i64 0 ∧ i = .int .i64 (j : Int) ∧ j ≤ nv ∧ objAt bs 1 = some (3, part vals j) ∧ HP wr p g bs ∧ Fr no w wr) (fun _ i _ => nv - (intOf i).toNat)
    case atStart => exact ⟨0, _, rfl, rfl, Nat.zero_le _, by rw [part_zero, hnv]; exact HN2.out, H3.out.1, H3.out.2⟩
    case round =>
      clear H3 HN2
      obtain ⟨j, bs, rfl, rfl, hj, ho, hp, hf⟩ := hrel
      by_cases hlt : j < nv
      · obtain ⟨x, hx⟩ : ∃ x, vals[j]? = some x := ⟨_, List.getElem?_eq_getElem (by omega)⟩
        obtain ⟨b0, o0, hov, hc0⟩ := (HV.out.keep hf).at_ (f := fun x => .int .u64 (x : Int)) (fun _ => rfl) rfl hx
        subst hov
        have PT := put_any wr p g bs hp 1 (j : Int) x (by decide)
        have hh := (has_obj ho j).1
        rw [part_length vals j (by omega), hnv, decide_eq_true hlt] at hh
        rw [hh] at PT
        simp only [errA, if_true] at PT
        have HX : Hid (objAt (putB bs 1 (j : Int) x) 1 = some (3, part vals (j + 1)) ∧ Fr no w wr) := ⟨by rw [put_obj ho, if_pos rfl, part_next vals j x hx], hf⟩
        have hji : (j : Int) < (nv : Int) := by omega
        clear ho hp hf hh hx
        go_wp2_with fail
        refine PT.mono ?_
        rintro e w4 ⟨rfl, h4, f4⟩
        have H4 : Hid (HP w4 p g (putB bs 1 (j : Int) x) ∧ Fr no w w4) := ⟨h4, HX.out.2.new f4 (fun i hi e => by have := HG.out; omega)⟩
        clear h4 f4 PT
        go_wp2_with fail
        go_roundw
        case rel => exact ⟨j + 1, _, rfl, by go_num, by omega, HX.out.1, H4.out.1, H4.out.2⟩
        case measure => simp [intOf]; omega
      · obtain rfl : j = nv := by omega
        have H4 : Hid (Kept vals bs [] ∧ AB w wr p g bs (.slice none 0 0) []) := ⟨⟨by rw [← hnv, part_all] at ho; exact ho, List.nodup_nil, fun a ha => by simp at ha⟩, hp, OwnG.nil _ _, NewV.nil _, hf⟩
        have hji : decide ((j : Int) < (j : Int)) = false := by simp
        clear ho hp hf
        go_wp2_with fail
        go_loopw [9, 10] (fun lv i wr => ∃ (t : Nat) (bs : List Blk) (ls : List Int), i = .int .i64 (t : Int) ∧ t ≤ nu ∧ ls.length ≤ t ∧ Kept vals bs ls ∧ AB w wr p g bs lv ls) (fun _ i _ => nu - (intOf i).toNat)
        case atStart => exact ⟨0, _, _, rfl, Nat.zero_le _, Nat.le_refl _, H4.out.1, H4.out.2⟩
        case round =>
          clear H4
          obtain ⟨t, bs, ls, rfl, htn, hlt2, hkp, hab⟩ := hrel
          --BODY2
          by_cases hti : t < nu
          · obtain ⟨y, hy⟩ : ∃ y, churn[t]? = some y := ⟨_, List.getElem?_eq_getElem (by omega)⟩
            have hy256 := HB.out y (List.mem_of_getElem? hy)
            obtain ⟨b0, o0, hov, hcy⟩ := (HU.out.keep hab.fr).at_ (f := fun x => .int .u8 (x : Int)) (fun _ => rfl) rfl hy
            subst hov
            have HCY : Hid (∀ wz, Fr no w wz → wz.cell? ⟨b0, o0 + t, none⟩ = some (.int .u8 (y : Int))) := fun wz fz => by
              obtain ⟨b1, o1, he1, hc1⟩ := (HU.out.keep fz).at_ (f := fun x => .int .u8 (x : Int)) (fun _ => rfl) rfl hy
              simp only [Option.some.injEq, Addr.mk.injEq] at he1
              rw [he1.1, he1.2.1]
              exact hc1
            have hti' : (t : Int) < (nu : Int) := by omega
            clear hy
            by_cases h3 : y % 3 = 0
            · have h3' : ((y : Int) % 3 == 0) = true := by simp; omega
              cases ls with
              | cons a ls =>
                obtain ⟨hba, hkd⟩ := hkp.drop
                obtain ⟨b, o, c, sv, hu9, hca, -, -, -⟩ := drop_first hab
                have RL := release_any wr p g bs hab.hp a (by have := beg_le hba; have := hab.hp.len; unfold siz at *; omega)
                rw [hba] at RL
                simp only [errA, if_true] at RL
                subst hu9
                have HX : Hid (Kept vals (freeB bs a) ls ∧ AB w wr p g bs (.slice (some ⟨b, o, none⟩) (ls.length + 1) c) (a :: ls)) := ⟨hkd, hab⟩
                have hl2 : ls.length + 1 ≤ t := by simpa using hlt2
                clear hba hkd hkp hab hlt2
                generalize hll : ls.length = ll at *
                have hl0 : (0 : Int) < (ll : Int) + 1 := by omega
                go_wp2_with fail
                refine RL.mono ?_
                rintro e w5 ⟨rfl, h5, f5⟩
                obtain ⟨b', o', c', sv', hu9', -, q1, q2, hab5⟩ := drop_first (HX.out.2.turn HG.out h5 f5)
                have H5 : Hid (AB w w5 p g (freeB bs a) sv' ls) := hab5
                clear h5 f5 RL hab5 hu9'
                go_wp2_with fail
                go_roundw
                case rel => exact ⟨t + 1, _, ls, by go_num, by omega, by omega, HX.out.1, H5.out⟩
                case measure => simp [intOf]; omega
              | nil =>
                obtain ⟨ol, cl, hu9⟩ := hab.own.form
                subst hu9
                simp only [List.length_nil] at hlt2
                have AL := alloc_nat wr p g bs hab.hp 4 (y % 8) (by decide)
                have e8 : (y : Int) % 8 = ((y % 8 : Nat) : Int) := by omega
                have h8 : y % 8 < 8 := Nat.mod_lt _ (by omega)
                generalize y % 8 = m at *
                cases hr : roomAt m bs with
                | none =>
                  rw [hr, (roomAt_none hr).2] at AL
                  simp only [rmA, errM, Option.isSome_none, Bool.false_eq_true, if_false] at AL
                  have HX : Hid (Kept vals bs [] ∧ AB w wr p g bs (.slice ol 0 cl) []) := ⟨hkp, hab⟩
                  clear hr hkp hab
                  go_wp2_with fail
                  refine AL.mono ?_
                  rintro e w5 ⟨rfl, h5, f5⟩
                  have H5 : Hid (AB w w5 p g bs (.slice ol 0 cl) []) := HX.out.2.turn HG.out h5 f5
                  clear h5 f5 AL
                  go_wp2_with fail
                  go_roundw
                  case rel => exact ⟨t + 1, bs, [], by go_num, by omega, by first | omega | simp, HX.out.1, H5.out⟩
                  case measure => simp [intOf]; omega
                | some o =>
                  rw [hr] at AL
                  simp only [rmA, errM, Option.isSome_some, if_true] at AL
                  have HX : Hid (Newer vals ((o : Int) + 1) (List.replicate m 0) (allocB 4 m bs) [] ∧ AB w wr p g bs (.slice ol 0 cl) []) := ⟨hkp.alloc hr, hab⟩
                  have ho2 : Hid (o + m + 2 ≤ 2048) := by
                    obtain ⟨-, -, -, -, A, B, -, -, -, -, h9⟩ := alloc_some (c := 4) hr
                    have := hab.hp.len
                    unfold siz at h9
                    exact Nat.le_trans h9 this
                  clear hr hkp hab
                  go_wp2_with fail
                  refine AL.mono ?_
                  rintro e w5 ⟨rfl, h5, f5⟩
                  have H5 : Hid (AB w w5 p g (allocB 4 m bs) (.slice ol 0 cl) []) := HX.out.2.turn HG.out h5 f5
                  have HK5 : Hid (wr.cell? ⟨b0, o0 + t, none⟩ = some (.int .u8 (y : Int))) := hcy
                  clear h5 f5 AL hcy
                  go_wp2_with fail
                  go_loopw [13] (fun i wz => ∃ (k : Nat) (bs' : List Blk), i = .int .i64 (k : Int) ∧ k ≤ m ∧ Newer vals ((o : Int) + 1) (part (List.replicate m 9223372036854775808) k) bs' [] ∧ AB w wz p g bs' (.slice ol 0 cl) []) (fun i _ => m - (intOf i).toNat)
                  case atStart => exact ⟨0, _, rfl, Nat.zero_le _, by rw [part_zero, List.length_replicate]; exact HX.out.1, H5.out⟩
                  case round =>
                    rename World => wz
                    clear H5 HX
                    obtain ⟨k, bs', rfl, hk, hnw, hab⟩ := hrel
                    have hcz : wz.cell? ⟨b0, o0 + t, none⟩ = some (.int .u8 (y : Int)) := HCY.out wz hab.fr
                    by_cases hkm : k < m
                    · obtain ⟨hw1, hw2⟩ := has_obj hnw.at_o k
                      rw [part_length _ k (by simp; omega), List.length_replicate, decide_eq_true hkm] at hw1
                      rw [part_get _ k (by simp; omega)] at hw2
                      have GT := get_any wz p g bs' hab.hp ((o : Int) + 1) (k : Int) (by have := ho2.out; omega)
                      rw [hw1, hw2] at GT
                      simp only [errA, if_true, Int.natCast_zero] at GT
                      have PT : Hid (∀ m', Calls Try.prog 16 #[.pointer (some ⟨p, 0, none⟩), .int .i64 ((o : Int) + 1), .int .i64 (k : Int), .int .u64 9223372036854775808] (wz.drewN m') fun e w' => e = .returned (.int .i64 0) ∧ Newer vals ((o : Int) + 1) (part (List.replicate m 9223372036854775808) (k + 1)) (putB bs' ((o : Int) + 1) (k : Int) 9223372036854775808) [] ∧ AB w w' p g (putB bs' ((o : Int) + 1) (k : Int) 9223372036854775808) (.slice ol 0 cl) []) := fun m' => by
                        have hab' := hab.more ((Fr.refl no wz).drewN m')
                        have := put_any (wz.drewN m') p g bs' hab'.hp ((o : Int) + 1) (k : Int) 9223372036854775808 (by have := ho2.out; omega)
                        have e63 : ((9223372036854775808 : Nat) : Int) = 9223372036854775808 := rfl
                        rw [hw1, e63] at this
                        simp only [errA, if_true] at this
                        refine this.mono fun e w' ⟨a1, a2, a3⟩ => ⟨a1, ?_, hab'.turn HG.out a2 a3⟩
                        have := hnw.put k 9223372036854775808
                        rw [part_next _ k 9223372036854775808 (by rw [List.getElem?_replicate, if_pos hkm])] at this
                        exact this
                      have hkmi : (k : Int) < (m : Int) := by omega
                      clear hnw hab hw1 hw2
                      go_wp2_with fail
                      refine GT.mono ?_
                      rintro e w6 ⟨rfl, m6, hw6⟩
                      have PT6 := PT.out m6
                      rw [← hw6] at PT6
                      clear hw6 GT
                      go_wp2_with fail
                      refine PT6.mono ?_
                      rintro e w7 ⟨rfl, n7, a7⟩
                      have H7 : Hid (_ ∧ _) := ⟨n7, a7⟩
                      clear n7 a7 PT6
                      go_wp2_with fail
                      go_roundw
                      case rel => exact ⟨k + 1, _, by go_num, by omega, H7.out.1, H7.out.2⟩
                      case measure => simp [intOf]; omega
                    · obtain rfl : k = m := by omega
                      have HX2 : Hid (Kept vals bs' ([] ++ [(o : Int) + 1])) := hnw.done
                      have H6 : Hid (AB w (wz.alloc (.cells (elI.f ((o : Int) + 1)).toArray elI.e)) p g bs' (.slice ol 0 cl) []) := hab.more ((Fr.refl no wz).alloc _ _)
                      clear hnw hab
                      go_wp2_with (at_builtin; refine wpList_apdG elI_ok _ rfl rfl _ _ rfl (.slice ol 0 cl) [] rfl H6.out.own _ rfl [(o : Int) + 1] (srcG_one elI_ok wz ((o : Int) + 1)) (by simp <;> omega) ?_; intro v' w7 o7 s7)
                      have H7 : Hid (AB w w7 p g bs' v' ([] ++ [(o : Int) + 1])) := H6.out.grow o7 s7
                      clear o7 s7 H6
                      go_roundw
                      case rel => exact ⟨t + 1, bs', [] ++ [(o : Int) + 1], by go_num, by omega, by simp <;> omega, HX2.out, H7.out⟩
                      case measure => simp [intOf]; omega
            · have h3' : ((y : Int) % 3 == 0) = false := by simp; omega
              have hl40 : ls.length ≤ 40 := by omega
              have AL := alloc_nat wr p g bs hab.hp 4 (y % 8) (by decide)
              have e8 : (y : Int) % 8 = ((y % 8 : Nat) : Int) := by omega
              have h8 : y % 8 < 8 := Nat.mod_lt _ (by omega)
              generalize y % 8 = m at *
              cases hr : roomAt m bs with
              | none =>
                rw [hr, (roomAt_none hr).2] at AL
                simp only [rmA, errM, Option.isSome_none, Bool.false_eq_true, if_false] at AL
                have HX : Hid (Kept vals bs ls ∧ AB w wr p g bs u9 ls) := ⟨hkp, hab⟩
                clear hr hkp hab
                go_wp2_with fail
                refine AL.mono ?_
                rintro e w5 ⟨rfl, h5, f5⟩
                have H5 : Hid (AB w w5 p g bs u9 ls) := HX.out.2.turn HG.out h5 f5
                clear h5 f5 AL
                go_wp2_with fail
                go_roundw
                case rel => exact ⟨t + 1, bs, ls, by go_num, by omega, by first | omega | simp, HX.out.1, H5.out⟩
                case measure => simp [intOf]; omega
              | some o =>
                rw [hr] at AL
                simp only [rmA, errM, Option.isSome_some, if_true] at AL
                have HX : Hid (Newer vals ((o : Int) + 1) (List.replicate m 0) (allocB 4 m bs) ls ∧ AB w wr p g bs u9 ls) := ⟨hkp.alloc hr, hab⟩
                have ho2 : Hid (o + m + 2 ≤ 2048) := by
                  obtain ⟨-, -, -, -, A, B, -, -, -, -, h9⟩ := alloc_some (c := 4) hr
                  have := hab.hp.len
                  unfold siz at h9
                  exact Nat.le_trans h9 this
                clear hr hkp hab
                go_wp2_with fail
                refine AL.mono ?_
                rintro e w5 ⟨rfl, h5, f5⟩
                have H5 : Hid (AB w w5 p g (allocB 4 m bs) u9 ls) := HX.out.2.turn HG.out h5 f5
                have HK5 : Hid (wr.cell? ⟨b0, o0 + t, none⟩ = some (.int .u8 (y : Int))) := hcy
                clear h5 f5 AL hcy
                go_wp2_with fail
                go_loopw [13] (fun i wz => ∃ (k : Nat) (bs' : List Blk), i = .int .i64 (k : Int) ∧ k ≤ m ∧ Newer vals ((o : Int) + 1) (part (List.replicate m 9223372036854775808) k) bs' ls ∧ AB w wz p g bs' u9 ls) (fun i _ => m - (intOf i).toNat)
                case atStart => exact ⟨0, _, rfl, Nat.zero_le _, by rw [part_zero, List.length_replicate]; exact HX.out.1, H5.out⟩
                case round =>
                  rename World => wz
                  clear H5 HX
                  obtain ⟨k, bs', rfl, hk, hnw, hab⟩ := hrel
                  have hcz : wz.cell? ⟨b0, o0 + t, none⟩ = some (.int .u8 (y : Int)) := HCY.out wz hab.fr
                  by_cases hkm : k < m
                  · obtain ⟨hw1, hw2⟩ := has_obj hnw.at_o k
                    rw [part_length _ k (by simp; omega), List.length_replicate, decide_eq_true hkm] at hw1
                    rw [part_get _ k (by simp; omega)] at hw2
                    have GT := get_any wz p g bs' hab.hp ((o : Int) + 1) (k : Int) (by have := ho2.out; omega)
                    rw [hw1, hw2] at GT
                    simp only [errA, if_true, Int.natCast_zero] at GT
                    have PT : Hid (∀ m', Calls Try.prog 16 #[.pointer (some ⟨p, 0, none⟩), .int .i64 ((o : Int) + 1), .int .i64 (k : Int), .int .u64 9223372036854775808] (wz.drewN m') fun e w' => e = .returned (.int .i64 0) ∧ Newer vals ((o : Int) + 1) (part (List.replicate m 9223372036854775808) (k + 1)) (putB bs' ((o : Int) + 1) (k : Int) 9223372036854775808) ls ∧ AB w w' p g (putB bs' ((o : Int) + 1) (k : Int) 9223372036854775808) u9 ls) := fun m' => by
                      have hab' := hab.more ((Fr.refl no wz).drewN m')
                      have := put_any (wz.drewN m') p g bs' hab'.hp ((o : Int) + 1) (k : Int) 9223372036854775808 (by have := ho2.out; omega)
                      have e63 : ((9223372036854775808 : Nat) : Int) = 9223372036854775808 := rfl
                      rw [hw1, e63] at this
                      simp only [errA, if_true] at this
                      refine this.mono fun e w' ⟨a1, a2, a3⟩ => ⟨a1, ?_, hab'.turn HG.out a2 a3⟩
                      have := hnw.put k 9223372036854775808
                      rw [part_next _ k 9223372036854775808 (by rw [List.getElem?_replicate, if_pos hkm])] at this
                      exact this
                    have hkmi : (k : Int) < (m : Int) := by omega
                    clear hnw hab hw1 hw2
                    go_wp2_with fail
                    refine GT.mono ?_
                    rintro e w6 ⟨rfl, m6, hw6⟩
                    have PT6 := PT.out m6
                    rw [← hw6] at PT6
                    clear hw6 GT
                    go_wp2_with fail
                    refine PT6.mono ?_
                    rintro e w7 ⟨rfl, n7, a7⟩
                    have H7 : Hid (_ ∧ _) := ⟨n7, a7⟩
                    clear n7 a7 PT6
                    go_wp2_with fail
                    go_roundw
                    case rel => exact ⟨k + 1, _, by go_num, by omega, H7.out.1, H7.out.2⟩
                    case measure => simp [intOf]; omega
                  · obtain rfl : k = m := by omega
                    have HX2 : Hid (Kept vals bs' (ls ++ [(o : Int) + 1])) := hnw.done
                    have H6 : Hid (AB w (wz.alloc (.cells (elI.f ((o : Int) + 1)).toArray elI.e)) p g bs' u9 ls) := hab.more ((Fr.refl no wz).alloc _ _)
                    clear hnw hab
                    go_wp2_with (at_builtin; refine wpList_apdG elI_ok _ rfl rfl _ _ rfl u9 ls rfl H6.out.own _ rfl [(o : Int) + 1] (srcG_one elI_ok wz ((o : Int) + 1)) (by simp <;> omega) ?_; intro v' w7 o7 s7)
                    have H7 : Hid (AB w w7 p g bs' v' (ls ++ [(o : Int) + 1])) := H6.out.grow o7 s7
                    clear o7 s7 H6
                    go_roundw
                    case rel => exact ⟨t + 1, bs', ls ++ [(o : Int) + 1], by go_num, by omega, by simp <;> omega, HX2.out, H7.out⟩
                    case measure => simp [intOf]; omega
          · obtain rfl : t = nu := by omega
            have HX : Hid (Kept vals bs ls ∧ HP wr p g bs ∧ Fr no w wr) := ⟨hkp, hab.hp, hab.fr⟩
            have hti' : decide ((t : Int) < (t : Int)) = false := by simp
            clear hkp hab
            go_wp2_with fail
            go_loopw [16] (fun i wz => ∃ (k : Nat), i = .int .i64 (k : Int) ∧ k ≤ j ∧ HP wz p g bs ∧ Fr no w wz) (fun i _ => j - (intOf i).toNat)
            case atStart => exact ⟨0, rfl, Nat.zero_le _, HX.out.2.1, HX.out.2.2⟩
            case round =>
              rename World => wz
              obtain ⟨k, rfl, hk, hp, hf⟩ := hrel
              by_cases hkj : k < j
              · obtain ⟨x, hx⟩ : ∃ x, vals[k]? = some x := ⟨_, List.getElem?_eq_getElem (by omega)⟩
                obtain ⟨hw1, hw2⟩ := has_obj HX.out.1.one k
                rw [hnv, decide_eq_true hkj] at hw1
                rw [List.getD_eq_getElem?_getD, hx, Option.getD_some] at hw2
                have GT := get_any wz p g bs hp 1 (k : Int) (by decide)
                rw [hw1, hw2] at GT
                simp only [errA, if_true] at GT
                have HC : Hid (∀ w6, Fr no w w6 → ∃ b0 o0, ov = some ⟨b0, o0, none⟩ ∧ w6.cell? ⟨b0, o0 + k, none⟩ = some (.int .u64 (x : Int))) := fun w6 f6 =>
                  (HV.out.keep f6).at_ (f := fun x => .int .u64 (x : Int)) (fun _ => rfl) rfl hx
                have H5 : Hid (HP wz p g bs ∧ Fr no w wz) := ⟨hp, hf⟩
                have hkji : (k : Int) < (j : Int) := by omega
                clear hp hf hw1 hw2 hx
                go_wp2_with fail
                refine GT.mono ?_
                rintro e w6 ⟨rfl, m6, hw6⟩
                have H6 : Hid (HP w6 p g bs ∧ Fr no w w6) := by rw [hw6]; exact ⟨H5.out.1.drewN m6, H5.out.2.drewN m6⟩
                obtain ⟨b0, o0, hov, hc6⟩ := HC.out w6 H6.out.2
                subst hov
                clear hw6 GT
                go_wp2_with fail
                go_roundw
                case rel => exact ⟨k + 1, by go_num, by omega, H6.out.1, H6.out.2⟩
                case measure => simp [intOf]; omega
              · obtain rfl : k = j := by omega
                have CL := class_any wz p g bs hp 1 (by decide) (fun c ws h => by rw [HX.out.1.one] at h; simp only [Option.some.injEq, Prod.mk.injEq] at h; omega)
                have hc3 : clsA bs 1 = 3 := by unfold clsA; rw [HX.out.1.one]; rfl
                have hb1 : beg bs 1 = true := by rw [beg_obj, HX.out.1.one]; rfl
                rw [hc3, hb1] at CL
                simp only [errA, if_true] at CL
                obtain ⟨hw1, hw2⟩ := has_obj HX.out.1.one k
                rw [hnv, decide_eq_false (by omega)] at hw1
                have GT : Hid (∀ m', Calls Try.prog 17 #[.pointer (some ⟨p, 0, none⟩), .int .i64 1, .int .i64 (k : Int)] (wz.drewN m') fun e w' => (∃ q, e = .returned (.tuple #[.int .u64 q, .int .i64 111])) ∧ Fr no w w') := fun m' => by
                  have := get_any (wz.drewN m') p g bs (hp.drewN m') 1 (k : Int) (by decide)
                  rw [hw1] at this
                  refine this.mono fun e w' ⟨a1, m2, a2⟩ => ⟨⟨_, a1⟩, ?_⟩
                  rw [a2]
                  exact (hf.drewN m').drewN m2
                clear hw1 hw2 hp hf hb1 hc3
                have hkk : decide ((k : Int) < (k : Int)) = false := by simp
                go_wp2_with fail
                refine CL.mono ?_
                rintro e w6 ⟨rfl, m6, hw6⟩
                have G6 := GT.out m6
                rw [← hw6] at G6
                clear hw6 CL
                go_wp2_with fail
                refine G6.mono ?_
                rintro e w7 ⟨⟨q7, rfl⟩, f7⟩
                have H7 : Hid (Fr no w w7) := f7
                clear f7
                go_wp2_with fail
                go_ret
                exact ⟨rfl, H7.out⟩
end Go.Proofs.Ytmoejipmiicgpaa
