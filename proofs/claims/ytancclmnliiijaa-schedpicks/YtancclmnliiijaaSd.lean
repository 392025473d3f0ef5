/- Ready, Pick, End, Ints. -/
import Derived.Test.YtancclmnliiijaaSc
namespace Go.Proofs.Ytancclmnliiijaa
open Go.ChangeShapes Go.WideShapes Go.ChangeAt Go.RowKit

def sameI (a b : List Int) : Bool := decide (a = b)

set_option maxRecDepth 100000 in
theorem ints_any (w : World) (v u : Value) (a b : List Int) (hv : RdG elI w v a) (hu : RdG elI w u b) :
    Calls Try.prog 17 #[v, u] w fun e w' => e = .returned (.bool (sameI a b)) ∧ ∃ m, w' = w.drewN m := by
  have HA : Hid (RdG elI w v a) := hv
  have HB : Hid (RdG elI w u b) := hu
  obtain ⟨ad, ac, rfl, al, am, -⟩ := hv
  obtain ⟨bd, bc, rfl, bl, bm, -⟩ := hu
  unfold maxLen at am bm
  by_cases hlen : a.length = b.length
  · have hne : ((a.length : Int) == (b.length : Int)) = true := by simp; omega
    have hne' : ((a.length : Int) != (b.length : Int)) = false := by simp; omega
    go_enter Try.func17, Try.ntmps17
    generalize hla : a.length = la at *
    generalize hlb : b.length = lb at *
    subst hlen
    go_wp2_with fail
    go_loopw [5] (fun i wr => ∃ (k m : Nat), i = .int .i64 (k : Int) ∧ k ≤ la ∧ a.take k = b.take k ∧ wr = w.drewN m) (fun i _ => la - (intOf i).toNat)
    case atStart => exact ⟨0, 0, rfl, Nat.zero_le _, rfl, rfl⟩
    case round =>
      obtain ⟨k, m, rfl, hk, hE, hwr⟩ := hrel
      have HE : Hid (a.take k = b.take k) := hE
      have HR : Hid (wr = w.drewN m) := hwr
      clear hE
      by_cases hlt : k < la
      · obtain ⟨x, hx⟩ : ∃ x, a[k]? = some x := ⟨_, List.getElem?_eq_getElem (by omega)⟩
        obtain ⟨y, hy⟩ : ∃ y, b[k]? = some y := ⟨_, List.getElem?_eq_getElem (by omega)⟩
        obtain ⟨p, o, hp, c1⟩ := HA.out.at1 (u := .int .i64 x) rfl rfl hx
        obtain ⟨p2, o2, hp2, d1⟩ := HB.out.at1 (u := .int .i64 y) rfl rfl hy
        subst hp hp2
        have c1' : wr.cell? ⟨p, o + k, none⟩ = some (.int .i64 x) := by rw [hwr]; exact c1
        have d1' : wr.cell? ⟨p2, o2 + k, none⟩ = some (.int .i64 y) := by rw [hwr]; exact d1
        have HX : Hid (a[k]? = some x ∧ b[k]? = some y) := ⟨hx, hy⟩
        have hki : (k : Int) < (la : Int) := by omega
        clear hwr c1 d1 hx hy
        by_cases hxy : x = y
        · have hbb : (x != y) = false := by simp [hxy]
          have HT : Hid (a.take (k + 1) = b.take (k + 1)) := by
            rw [Hid, take_next a k _ HX.out.1, take_next b k _ HX.out.2, HE.out, hxy]
          clear hxy
          go_wp2_with fail
          go_quiet (fail)
          generalize hwq : World.drewN wr nq = wq
          have HQ : Hid (wq = w.drewN (m + nq)) := by rw [Hid, ← hwq, HR.out]; simp
          clear hwq
          go_wp2_with fail
          go_roundw
          case rel => exact ⟨k + 1, m + nq, by go_num, by omega, HT.out, HQ.out⟩
          case measure => simp [intOf]; omega
        · have hbb : (x != y) = true := by simp [hxy]
          have HT : Hid (sameI a b = false) := by
            refine decide_eq_false fun e => ?_
            rw [e] at HX
            have := HX.out.1.symm.trans HX.out.2
            simp only [Option.some.injEq] at this
            exact hxy this
          clear hxy
          go_wp2_with fail
          go_quiet (fail)
          generalize hwq : World.drewN wr nq = wq
          have HQ : Hid (wq = w.drewN (m + nq)) := by rw [Hid, ← hwq, HR.out]; simp
          clear hwq
          go_wp2_with fail
          go_ret
          exact ⟨by rw [HT.out]; rfl, m + nq, HQ.out⟩
      · have hkl : k = la := by omega
        subst hkl
        have HT : Hid (sameI a b = true) := by
          refine decide_eq_true ?_
          have := HE.out
          rw [List.take_of_length_le (by omega), List.take_of_length_le (by omega)] at this
          exact this
        clear hwr
        go_wp2_with fail
        go_ret
        exact ⟨by rw [HT.out]; rfl, m, HR.out⟩
  · have hne : ((a.length : Int) == (b.length : Int)) = false := by simp; omega
    have hne' : ((a.length : Int) != (b.length : Int)) = true := by simp; omega
    have HT : Hid (sameI a b = false) := decide_eq_false fun e => hlen (by rw [e])
    go_enter Try.func17, Try.ntmps17
    go_wp2_with fail
    go_ret
    exact ⟨by rw [HT.out]; rfl, 0, rfl⟩


section
variable {w : World} {p n : Nat} {T : List (Int × Int)}

def RyAt (w : World) (p n : Nat) (T : List (Int × Int)) (x : Act) (wr : World) : Prop :=
  ∃ (k : Nat) (z : Int) (lv : Value) (u1 u5 u6 u7 u8 u9 u10 u11 u12 u13 u14 : Value), x = { tmps := #[.pointer (some ⟨p, 0, none⟩), u1, .slice none 0 0, lv, .int .i64 z, u5, u6, u7, u8, u9, u10, u11, u12, u13, u14], defers := [] } ∧ z = (k : Int) ∧ k ≤ n ∧ OwnG elI wr lv (sel rdy T k) ∧ NewV w lv ∧ Fr no w wr

set_option maxRecDepth 100000 in
set_option maxHeartbeats 1000000 in
theorem ready_any (h : PS w p n T) : Calls Try.prog 22 #[.pointer (some ⟨p, 0, none⟩)] w fun e w' => ∃ v, e = .returned v ∧ OwnG elI w' v (sel rdy T n) ∧ NewV w v ∧ Fr no w w' := by
  have hle := h.le
  have HP : Hid (PS w p n T) := h
  clear h
  go_enter Try.func22, Try.ntmps22
  go_wp2_with fail
  refine wp_label_one 0 (RyAt w p n T) (fun x _ => 100 - (intOf (x.tmps.getD 4 undef)).toNat) rfl ?_ ?_
  · intro K h0 hr hn
    go_wp2_with fail
    go_step3
    rename_i hk
    exact hk _ _ (h0 _ _ ⟨0, _, _, _, _, _, _, _, _, _, _, _, _, _, rfl, rfl, Nat.zero_le _, OwnG.nil _ _, NewV.nil _, Fr.refl _ _⟩)
  · rintro x wr ⟨k, z, lv, u1, u5, u6, u7, u8, u9, u10, u11, u12, u13, u14, rfl, rfl, hk, how, hnv, hfr⟩ K hj hr hn
    have AF := after_any (HP.out.keep hfr) k hk 1
    have HO : Hid (OwnG elI wr lv (sel rdy T k) ∧ NewV w lv ∧ Fr no w wr) := ⟨how, hnv, hfr⟩
    clear how hnv hfr
    go_wp2_with fail
    refine AF.mono ?_
    rintro _ w1 ⟨r, rfl, hA, rfl⟩
    clear AF
    rcases hA with ⟨rfl, hno⟩ | ⟨j, x, rfl, hkj, hjn, hx, hxs, hno⟩
    · have HS : Hid (sel rdy T n = sel rdy T k) := sel_skip hk (fun i x a b c => by simpa [rdy] using hno i x a b c)
      clear hno
      go_wp2_with fail
      refine hr _ _ ?_
      go_ret
      exact ⟨_, rfl, by rw [HS.out]; exact HO.out.1, HO.out.2⟩
    · have HS : Hid (sel rdy T (j + 1) = sel rdy T k ++ [(j : Int) + 1]) := by
        rw [Hid, sel_yes hx (by simp [rdy, hxs]), sel_skip hkj (fun i x a b c => by simpa [rdy] using hno i x a b c)]
      have hj0 : ((j : Int) + 1 == 0) = false := by simp; omega
      have HL : Hid ((sel rdy T k).length + [(j : Int) + 1].length ≤ 1000000) := by
        have := sel_len rdy T k
        simp only [Hid, List.length_cons, List.length_nil]
        omega
      have HO1 : Hid (OwnG elI (w1.alloc (.cells (elI.f ((j : Int) + 1)).toArray elI.e)) lv (sel rdy T k)) := HO.out.1.keep ((Fr.refl no w1).alloc _ _)
      have HFR : Hid (Fr no w (w1.alloc (.cells (elI.f ((j : Int) + 1)).toArray elI.e))) := HO.out.2.2.alloc _ _
      have HSR : Hid _ := srcG_one elI_ok w1 ((j : Int) + 1)
      have HNV : Hid (NewV w lv) := HO.out.2.1
      clear hno hx hxs HO
      go_wp2_with (at_builtin; refine wpList_apdG elI_ok _ rfl rfl _ _ rfl lv (sel rdy T k) rfl HO1.out _ rfl [(j : Int) + 1] HSR.out HL.out ?_; intro v' w3 o3 s3; have H3 : Hid (OwnG elI w3 v' (sel rdy T k ++ [(j : Int) + 1]) ∧ NewV w v' ∧ Fr no w w3) := ⟨o3, HNV.out.step HFR.out s3⟩; clear o3 s3)
      go_step3
      refine hj _ _ ⟨j + 1, _, _, _, _, _, _, _, _, _, _, _, _, _, rfl, by omega, by omega, by rw [HS.out]; exact H3.out.1, H3.out.2⟩ ?_
      simp [intOf]
      omega
end
end Go.Proofs.Ytancclmnliiijaa
