/- All and Free. -/
import Derived.Test.YtopcbcdigllenaaFac
namespace Go.Proofs.Ytopcbcdigllenaa
open Go.ChangeShapes Go.WideShapes Go.ChangeAt Go.RowKit

/-- The objects' addresses, so many words lying ahead. -/
def objsA : Nat → List Blk → List Int
  | _, [] => []
  | k, .free j :: r => objsA (k + (Blk.free j).len) r
  | k, .obj c ws :: r => ((k : Int) + 1) :: objsA (k + (Blk.obj c ws).len) r

/-- The free blocks, so many words lying ahead. -/
def freesA : Nat → List Blk → List (Int × Int)
  | _, [] => []
  | k, .free j :: r => ((k : Int) + 1, ((Blk.free j).len : Int)) :: freesA (k + (Blk.free j).len) r
  | k, .obj c ws :: r => freesA (k + (Blk.obj c ws).len) r

def AllAt (w : World) (p : Nat) (bs : List Blk) (x : Act) (wr : World) : Prop :=
  ∃ (k : Nat) (pre post : List Blk) (l : List (Int)) (v : Value) (z : Int) (u1 u2 u5 u6 u7 u8 u9 u10 u11 u12 u13 u14 u15 u16 u17 u18 u19 u20 u21 u22 u23 u24 : Value), x = { tmps := #[.pointer (some ⟨p, 0, none⟩), u1, u2, v, .int .i64 z, u5, u6, u7, u8, u9, u10, u11, u12, u13, u14, u15, u16, u17, u18, u19, u20, u21, u22, u23, u24], defers := [] } ∧ z = (k : Int) + 1 ∧ bs = pre ++ post ∧ k = siz pre ∧ objsA 0 bs = l ++ objsA k post ∧ OwnG elI wr v l ∧ NewV w v ∧ Fr no w wr ∧ l.length ≤ k

set_option maxRecDepth 100000 in
set_option maxHeartbeats 2000000 in
theorem all_any (w : World) (p g : Nat) (bs : List Blk) (h : HP w p g bs) :
    Calls Try.prog 27 #[.pointer (some ⟨p, 0, none⟩)] w fun e w' => ∃ v, e = .returned v ∧ OwnG elI w' v (objsA 0 bs) ∧ NewV w v ∧ Fr no w w' := by
  have HH : Hid (HP w p g bs) := h
  have hl := h.len
  clear h
  generalize hq : (flat bs).length = q at *
  go_enter Try.func27, Try.ntmps27
  go_wp2_with fail
  refine wp_label_one 0 (AllAt w p bs) (fun x _ => 5000 - (intOf (x.tmps.getD 4 undef)).toNat) rfl ?_ ?_
  · intro K h0 hr hn
    go_wp2_with fail
    go_step3
    rename_i hk
    exact hk _ _ (h0 _ _ ⟨0, [], bs, [], _, _, _, _, _, _, _, _, _, _, _, _, _, _, _, _, _, _, _, _, _, _, _, _, rfl, rfl, rfl, rfl, rfl, OwnG.nil _ _, NewV.nil _, Fr.refl _ _, Nat.le_refl _⟩)
  · rintro x wr ⟨k, pre, post, l, v, z, u1, u2, u5, u6, u7, u8, u9, u10, u11, u12, u13, u14, u15, u16, u17, u18, u19, u20, u21, u22, u23, u24, rfl, rfl, he, hk, hb, ho, hv, hf, hlk⟩ K hj hr hn
    have HB : Hid (objsA 0 bs = l ++ objsA k post) := hb
    have HE : Hid (bs = pre ++ post) := he
    have HK : Hid (k = siz pre) := hk
    have HO : Hid (OwnG elI wr v l) := ho
    have HV : Hid (NewV w v) := hv
    have HF : Hid (Fr no w wr) := hf
    have HW0 : Hid (HP wr p g bs) := HH.out.keep hf
    have hc := HW0.out.cell
    rw [hq] at hc
    obtain ⟨ov, cv, hvf⟩ := ho.form
    clear hb he hk ho hv hf
    cases post with
    | nil =>
      have hkq : k = q := by
        have := HE.out
        rw [List.append_nil] at this
        rw [HK.out, ← this, ← hq]
        rfl
      have ht : (q : Int) < (k : Int) + 1 := by omega
      clear hvf
      go_wp2_with fail
      refine hr _ _ ?_
      go_ret
      refine ⟨_, rfl, ?_, HV.out, HF.out⟩
      rw [HB.out, objsA, List.append_nil]
      exact HO.out
    | cons b r =>
      have hsz : k + b.len + siz r = q := by
        have e1 : siz bs = q := hq
        rw [HE.out, siz_append, siz_cons, ← HK.out] at e1
        omega
      have hpos := b.len_pos
      have ht : ¬ ((q : Int) < (k : Int) + 1) := by omega
      have hd : (flat bs)[k]? = some (2 * b.len + b.bit) := by rw [HE.out, HK.out]; exact flat_head pre b r
      have IOb := isObject_any wr p g (flat bs) HW0.out k b.len b.bit hd (by omega) b.bit_le
      have LO : ∀ w1, HP w1 p g bs → Calls Try.prog 41 #[.pointer (some ⟨p, 0, none⟩), .int .i64 ((k : Int) + 1)] w1 fun e w' => e = .returned (.int .i64 (b.len : Int)) ∧ ∃ m'', w' = w1.drewN m'' :=
        fun w1 h1 => length_any w1 p g (flat bs) h1 k b.len b.bit hd (by omega) b.bit_le
      rw [b.bit_obj] at IOb
      clear hd
      have FIN : Hid (∀ (l' : List (Int)) (w' : World) (a' : Act) (v' : Value) (z : Int), objsA 0 bs = l' ++ objsA (k + b.len) r → OwnG elI w' v' l' → NewV w v' → Fr no w w' → l'.length ≤ k + 1 → z = (k : Int) + 1 + (b.len : Int) → (∃ u1 u2 u5 u6 u7 u8 u9 u10 u11 u12 u13 u14 u15 u16 u17 u18 u19 u20 u21 u22 u23 u24, a' = { tmps := #[.pointer (some ⟨p, 0, none⟩), u1, u2, v', .int .i64 z, u5, u6, u7, u8, u9, u10, u11, u12, u13, u14, u15, u16, u17, u18, u19, u20, u21, u22, u23, u24], defers := [] }) → K (.goto 0) a' w') := by
        intro l' w' a' v' z h1 h2 h3 h4 h5 h6 h7
        obtain ⟨u1, u2, u5, u6, u7, u8, u9, u10, u11, u12, u13, u14, u15, u16, u17, u18, u19, u20, u21, u22, u23, u24, hx⟩ := h7
        refine hj _ _ ⟨k + b.len, pre ++ [b], r, l', v', z, u1, u2, u5, u6, u7, u8, u9, u10, u11, u12, u13, u14, u15, u16, u17, u18, u19, u20, u21, u22, u23, u24, hx, by omega, by rw [HE.out]; simp, by rw [siz_append, siz_cons, siz_nil, HK.out]; omega, h1, h2, h3, h4, by omega⟩ ?_
        rw [hx, h6]
        simp [intOf]
        omega
      have HLO : Hid (∀ w1, HP w1 p g bs → Calls Try.prog 41 #[.pointer (some ⟨p, 0, none⟩), .int .i64 ((k : Int) + 1)] w1 fun e w' => e = .returned (.int .i64 (b.len : Int)) ∧ ∃ m'', w' = w1.drewN m'') := LO
      clear LO hj
      cases b with
      | free j =>
        have HP2 : Hid (objsA 0 bs = l ++ objsA (k + (Blk.free j).len) r) := by rw [Hid, HB.out, objsA]
        have IOb' : Calls Try.prog 54 #[.pointer (some ⟨p, 0, none⟩), .int .i64 ((k : Int) + 1)] wr fun e w' => e = .returned (.bool false) ∧ ∃ m, w' = wr.drewN m := IOb
        clear IOb hvf
        generalize (Blk.free j).len = bl at *
        go_wp2_with fail
        refine IOb'.mono ?_
        rintro e w1 ⟨rfl, m1, hw1⟩
        have L1 := HLO.out w1 (by rw [hw1]; exact HW0.out.drewN m1)
        have HW1 : Hid (w1 = wr.drewN m1) := hw1
        clear hw1
        go_wp2_with fail
        refine L1.mono ?_
        rintro e w2 ⟨rfl, m2, rfl⟩
        go_wp2_with fail
        go_step3
        have F2 : Fr no wr (w1.drewN m2) := by rw [HW1.out]; exact ((Fr.refl no wr).drewN m1).drewN m2
        exact FIN.out l _ _ _ _ HP2.out (HO.out.keep F2) HV.out (HF.out.and F2) (by omega) rfl ⟨_, _, _, _, _, _, _, _, _, _, _, _, _, _, _, _, _, _, _, _, _, _, rfl⟩
      | obj c ws =>
        have HP2 : Hid (objsA 0 bs = (l ++ [((k : Int) + 1)]) ++ objsA (k + (Blk.obj c ws).len) r) := by rw [Hid, HB.out, objsA]; simp
        have IOb' : Calls Try.prog 54 #[.pointer (some ⟨p, 0, none⟩), .int .i64 ((k : Int) + 1)] wr fun e w' => e = .returned (.bool true) ∧ ∃ m, w' = wr.drewN m := IOb
        clear IOb
        generalize (Blk.obj c ws).len = bl at *
        generalize hll : l.length = ll at *
        subst hvf
        go_wp2_with fail
        refine IOb'.mono ?_
        rintro e w1 ⟨rfl, m1, hw1⟩
        have HW1 : Hid (w1 = wr.drewN m1) := hw1
        clear hw1
        have HO1 : Hid (OwnG elI (w1.alloc (.cells (elI.f ((k : Int) + 1)).toArray elI.e)) (.slice ov ll cv) l) := by rw [Hid, HW1.out]; exact HO.out.keep (((Fr.refl no wr).drewN m1).alloc _ _)
        have HFR : Hid (Fr no w (w1.alloc (.cells (elI.f ((k : Int) + 1)).toArray elI.e))) := by rw [Hid, HW1.out]; exact (HF.out.drewN m1).alloc _ _
        go_wp2_with (at_builtin; refine wpList_apdG elI_ok _ rfl rfl _ _ rfl (.slice ov ll cv) l rfl HO1.out _ rfl [((k : Int) + 1)] (srcG_one elI_ok w1 ((k : Int) + 1)) (by simp; omega) ?_; intro v' w3 o3 s3)
        obtain ⟨nv3, f3⟩ := HV.out.step HFR.out s3
        have H3 : Hid (OwnG elI w3 v' (l ++ [((k : Int) + 1)]) ∧ NewV w v' ∧ Fr no w w3) := ⟨o3, nv3, f3⟩
        have L3 := HLO.out w3 (HH.out.keep f3)
        clear o3 nv3 f3 s3
        go_wp2_with fail
        refine L3.mono ?_
        rintro e w4 ⟨rfl, m4, rfl⟩
        go_wp2_with fail
        go_step3
        exact FIN.out _ _ _ _ _ HP2.out (H3.out.1.keep ((Fr.refl no w3).drewN m4)) H3.out.2.1 (H3.out.2.2.drewN m4) (by simp; omega) rfl ⟨_, _, _, _, _, _, _, _, _, _, _, _, _, _, _, _, _, _, _, _, _, _, rfl⟩

def FreeAt (w : World) (p : Nat) (bs : List Blk) (x : Act) (wr : World) : Prop :=
  ∃ (k : Nat) (pre post : List Blk) (l : List (Int × Int)) (v : Value) (z : Int) (u1 u2 u5 u6 u7 u8 u9 u10 u11 u12 u13 u14 u15 u16 u17 u18 u19 u20 u21 u22 u23 u24 u25 u26 u27 u28 u29 : Value), x = { tmps := #[.pointer (some ⟨p, 0, none⟩), u1, u2, v, .int .i64 z, u5, u6, u7, u8, u9, u10, u11, u12, u13, u14, u15, u16, u17, u18, u19, u20, u21, u22, u23, u24, u25, u26, u27, u28, u29], defers := [] } ∧ z = (k : Int) + 1 ∧ bs = pre ++ post ∧ k = siz pre ∧ freesA 0 bs = l ++ freesA k post ∧ OwnG elB wr v l ∧ NewV w v ∧ Fr no w wr ∧ l.length ≤ k

set_option maxRecDepth 100000 in
set_option maxHeartbeats 2000000 in
theorem free_any (w : World) (p g : Nat) (bs : List Blk) (h : HP w p g bs) :
    Calls Try.prog 29 #[.pointer (some ⟨p, 0, none⟩)] w fun e w' => ∃ v, e = .returned v ∧ OwnG elB w' v (freesA 0 bs) ∧ NewV w v ∧ Fr no w w' := by
  have HH : Hid (HP w p g bs) := h
  have hl := h.len
  clear h
  generalize hq : (flat bs).length = q at *
  go_enter Try.func29, Try.ntmps29
  go_wp2_with fail
  refine wp_label_one 0 (FreeAt w p bs) (fun x _ => 5000 - (intOf (x.tmps.getD 4 undef)).toNat) rfl ?_ ?_
  · intro K h0 hr hn
    go_wp2_with fail
    go_step3
    rename_i hk
    exact hk _ _ (h0 _ _ ⟨0, [], bs, [], _, _, _, _, _, _, _, _, _, _, _, _, _, _, _, _, _, _, _, _, _, _, _, _, _, _, _, _, _, rfl, rfl, rfl, rfl, rfl, OwnG.nil _ _, NewV.nil _, Fr.refl _ _, Nat.le_refl _⟩)
  · rintro x wr ⟨k, pre, post, l, v, z, u1, u2, u5, u6, u7, u8, u9, u10, u11, u12, u13, u14, u15, u16, u17, u18, u19, u20, u21, u22, u23, u24, u25, u26, u27, u28, u29, rfl, rfl, he, hk, hb, ho, hv, hf, hlk⟩ K hj hr hn
    have HB : Hid (freesA 0 bs = l ++ freesA k post) := hb
    have HE : Hid (bs = pre ++ post) := he
    have HK : Hid (k = siz pre) := hk
    have HO : Hid (OwnG elB wr v l) := ho
    have HV : Hid (NewV w v) := hv
    have HF : Hid (Fr no w wr) := hf
    have HW0 : Hid (HP wr p g bs) := HH.out.keep hf
    have hc := HW0.out.cell
    rw [hq] at hc
    obtain ⟨ov, cv, hvf⟩ := ho.form
    clear hb he hk ho hv hf
    cases post with
    | nil =>
      have hkq : k = q := by
        have := HE.out
        rw [List.append_nil] at this
        rw [HK.out, ← this, ← hq]
        rfl
      have ht : (q : Int) < (k : Int) + 1 := by omega
      clear hvf
      go_wp2_with fail
      refine hr _ _ ?_
      go_ret
      refine ⟨_, rfl, ?_, HV.out, HF.out⟩
      rw [HB.out, freesA, List.append_nil]
      exact HO.out
    | cons b r =>
      have hsz : k + b.len + siz r = q := by
        have e1 : siz bs = q := hq
        rw [HE.out, siz_append, siz_cons, ← HK.out] at e1
        omega
      have hpos := b.len_pos
      have ht : ¬ ((q : Int) < (k : Int) + 1) := by omega
      have hd : (flat bs)[k]? = some (2 * b.len + b.bit) := by rw [HE.out, HK.out]; exact flat_head pre b r
      have IOb := isObject_any wr p g (flat bs) HW0.out k b.len b.bit hd (by omega) b.bit_le
      have LO : ∀ w1, HP w1 p g bs → Calls Try.prog 41 #[.pointer (some ⟨p, 0, none⟩), .int .i64 ((k : Int) + 1)] w1 fun e w' => e = .returned (.int .i64 (b.len : Int)) ∧ ∃ m'', w' = w1.drewN m'' :=
        fun w1 h1 => length_any w1 p g (flat bs) h1 k b.len b.bit hd (by omega) b.bit_le
      rw [b.bit_obj] at IOb
      clear hd
      have FIN : Hid (∀ (l' : List (Int × Int)) (w' : World) (a' : Act) (v' : Value) (z : Int), freesA 0 bs = l' ++ freesA (k + b.len) r → OwnG elB w' v' l' → NewV w v' → Fr no w w' → l'.length ≤ k + 1 → z = (k : Int) + 1 + (b.len : Int) → (∃ u1 u2 u5 u6 u7 u8 u9 u10 u11 u12 u13 u14 u15 u16 u17 u18 u19 u20 u21 u22 u23 u24 u25 u26 u27 u28 u29, a' = { tmps := #[.pointer (some ⟨p, 0, none⟩), u1, u2, v', .int .i64 z, u5, u6, u7, u8, u9, u10, u11, u12, u13, u14, u15, u16, u17, u18, u19, u20, u21, u22, u23, u24, u25, u26, u27, u28, u29], defers := [] }) → K (.goto 0) a' w') := by
        intro l' w' a' v' z h1 h2 h3 h4 h5 h6 h7
        obtain ⟨u1, u2, u5, u6, u7, u8, u9, u10, u11, u12, u13, u14, u15, u16, u17, u18, u19, u20, u21, u22, u23, u24, u25, u26, u27, u28, u29, hx⟩ := h7
        refine hj _ _ ⟨k + b.len, pre ++ [b], r, l', v', z, u1, u2, u5, u6, u7, u8, u9, u10, u11, u12, u13, u14, u15, u16, u17, u18, u19, u20, u21, u22, u23, u24, u25, u26, u27, u28, u29, hx, by omega, by rw [HE.out]; simp, by rw [siz_append, siz_cons, siz_nil, HK.out]; omega, h1, h2, h3, h4, by omega⟩ ?_
        rw [hx, h6]
        simp [intOf]
        omega
      have HLO : Hid (∀ w1, HP w1 p g bs → Calls Try.prog 41 #[.pointer (some ⟨p, 0, none⟩), .int .i64 ((k : Int) + 1)] w1 fun e w' => e = .returned (.int .i64 (b.len : Int)) ∧ ∃ m'', w' = w1.drewN m'') := LO
      clear LO hj
      cases b with
      | obj c ws =>
        have HP2 : Hid (freesA 0 bs = l ++ freesA (k + (Blk.obj c ws).len) r) := by rw [Hid, HB.out, freesA]
        have IOb' : Calls Try.prog 54 #[.pointer (some ⟨p, 0, none⟩), .int .i64 ((k : Int) + 1)] wr fun e w' => e = .returned (.bool true) ∧ ∃ m, w' = wr.drewN m := IOb
        clear IOb hvf
        generalize (Blk.obj c ws).len = bl at *
        go_wp2_with fail
        refine IOb'.mono ?_
        rintro e w1 ⟨rfl, m1, hw1⟩
        have L1 := HLO.out w1 (by rw [hw1]; exact HW0.out.drewN m1)
        have HW1 : Hid (w1 = wr.drewN m1) := hw1
        clear hw1
        go_wp2_with fail
        refine L1.mono ?_
        rintro e w2 ⟨rfl, m2, rfl⟩
        go_wp2_with fail
        go_step3
        have F2 : Fr no wr (w1.drewN m2) := by rw [HW1.out]; exact ((Fr.refl no wr).drewN m1).drewN m2
        exact FIN.out l _ _ _ _ HP2.out (HO.out.keep F2) HV.out (HF.out.and F2) (by omega) rfl ⟨_, _, _, _, _, _, _, _, _, _, _, _, _, _, _, _, _, _, _, _, _, _, _, _, _, _, _, rfl⟩
      | free j =>
        have HP2 : Hid (freesA 0 bs = (l ++ [((k : Int) + 1, ((Blk.free j).len : Int))]) ++ freesA (k + (Blk.free j).len) r) := by rw [Hid, HB.out, freesA]; simp
        have IOb' : Calls Try.prog 54 #[.pointer (some ⟨p, 0, none⟩), .int .i64 ((k : Int) + 1)] wr fun e w' => e = .returned (.bool false) ∧ ∃ m, w' = wr.drewN m := IOb
        clear IOb
        generalize (Blk.free j).len = bl at *
        generalize hll : l.length = ll at *
        subst hvf
        go_wp2_with fail
        refine IOb'.mono ?_
        rintro e w1 ⟨rfl, m1, hw1⟩
        have HW1 : Hid (w1 = wr.drewN m1) := hw1
        clear hw1
        have L1 := HLO.out w1 (by rw [HW1.out]; exact HW0.out.drewN m1)
        go_wp2_with fail
        refine L1.mono ?_
        rintro e w2 ⟨rfl, m2, hw2⟩
        have HW2 : Hid (w2 = wr.drewN (m1 + m2)) := by rw [Hid, hw2, HW1.out]; simp
        clear hw2 L1
        have HO1 : Hid (OwnG elB (w2.alloc (.cells (elB.f ((k : Int) + 1, (bl : Int))).toArray elB.e)) (.slice ov ll cv) l) := by rw [Hid, HW2.out]; exact HO.out.keep (((Fr.refl no wr).drewN (m1 + m2)).alloc _ _)
        have HFR : Hid (Fr no w (w2.alloc (.cells (elB.f ((k : Int) + 1, (bl : Int))).toArray elB.e))) := by rw [Hid, HW2.out]; exact (HF.out.drewN (m1 + m2)).alloc _ _
        go_wp2_with (at_builtin; refine wpList_apdG elB_ok _ rfl rfl _ _ rfl (.slice ov ll cv) l rfl HO1.out _ rfl [((k : Int) + 1, (bl : Int))] (srcG_one elB_ok w2 ((k : Int) + 1, (bl : Int))) (by simp; omega) ?_; intro v' w3 o3 s3)
        obtain ⟨nv3, f3⟩ := HV.out.step HFR.out s3
        have H3 : Hid (OwnG elB w3 v' (l ++ [((k : Int) + 1, (bl : Int))]) ∧ NewV w v' ∧ Fr no w w3) := ⟨o3, nv3, f3⟩
        have L3 := HLO.out w3 (HH.out.keep f3)
        clear o3 nv3 f3 s3
        go_wp2_with fail
        refine L3.mono ?_
        rintro e w4 ⟨rfl, m4, rfl⟩
        go_wp2_with fail
        go_step3
        exact FIN.out _ _ _ _ _ HP2.out (H3.out.1.keep ((Fr.refl no w3).drewN m4)) H3.out.2.1 (H3.out.2.2.drewN m4) (by simp; omega) rfl ⟨_, _, _, _, _, _, _, _, _, _, _, _, _, _, _, _, _, _, _, _, _, _, _, _, _, _, _, rfl⟩
end Go.Proofs.Ytopcbcdigllenaa
