/- Lists, read: how many, then each. -/
import Derived.Test.YthncdbobjeeeaaaGreatDoorRd5
namespace Go.Proofs.YthncdbobjeeeaaaGreatDoor
open Go.ChangeShapes Go.WideShapes Go.ChangeAt Go.RowKit

def RListCsAt (w0 : World) (p q : Nat) (most : Nat) (f : St → Cs × St) (s : St) (a : Act) (w : World) : Prop :=
  ∃ (k : Nat) (acc : List Cs) (s' : St) (u8 : Value) (u3 u4 u5 u6 u9 u10 u11 u12 u13 u14 u15 u16 u17 u18 u19 u20 u21 u22 u23 u24 u25 u26 u27 u28 u29 u30 u31 : Value),
    a = { tmps := #[.pointer (some ⟨p, 0, none⟩), .int .i64 (most : Int), .func (.func 20) #[] #[], u3, u4, u5, u6, .int .i64 (k : Int), u8, u9, u10, u11, u12, u13, u14, u15, u16, u17, u18, u19, u20, u21, u22, u23, u24, u25, u26, u27, u28, u29, u30, u31], defers := [] } ∧ k ≤ most ∧ acc.length ≤ k ∧ (OwnG elCs w u8 acc) ∧ (∀ i, u8.ownBlock = some i → w0.heap.size ≤ i) ∧
    RT w p q s' ∧ Fr (PQ p q) w0 w ∧ rLoop f (k - acc.length) acc s' = rL most f s

set_option maxRecDepth 100000 in
set_option maxHeartbeats 4000000 in
theorem readCs_list (w : World) (p q : Nat) (s : St) (h : RT w p q s) (most : Nat) (hmost : most ≤ 1000) (f : St → Cs × St)
    (READ : ∀ w1 s1, RT w1 p q s1 → Fr (PQ p q) w w1 → Calls Tryz.prog 20 #[.pointer (some ⟨p, 0, none⟩)] w1 fun x w' => x = .returned (.agg #[.int .i64 (f s1).1.k, .int .i64 (f s1).1.n, .complex .f64 (f s1).1.re (f s1).1.im, .string (f s1).1.c, .string (f s1).1.m]) ∧ RT w' p q (f s1).2 ∧ Fr (PQ p q) w1 w') :
    Calls Tryz.prog 19 #[.pointer (some ⟨p, 0, none⟩), .int .i64 (most : Int), .func (.func 20) #[] #[]] w fun x w' => ∃ v, x = .returned v ∧ (OwnG elCs w' v (rL most f s).1) ∧ RT w' p q (rL most f s).2 ∧ Fr (PQ p q) w w' := by
  have C := rCount_any w p q s h (most : Int) (by omega) (by omega)
  have hle := tkN_le most s
  have HRL : Hid (rL most f s = rLoop f (tkN (most : Int) s).1 [] (tkN (most : Int) s).2) := rfl
  have HREAD : Hid (∀ w1 s1, RT w1 p q s1 → Fr (PQ p q) w w1 → Calls Tryz.prog 20 #[.pointer (some ⟨p, 0, none⟩)] w1 fun x w' => x = .returned (.agg #[.int .i64 (f s1).1.k, .int .i64 (f s1).1.n, .complex .f64 (f s1).1.re (f s1).1.im, .string (f s1).1.c, .string (f s1).1.m]) ∧ RT w' p q (f s1).2 ∧ Fr (PQ p q) w1 w') := READ
  have hlt0 := h.lt
  clear READ
  go_enter Tryz.func19, Tryz.ntmps19
  go_wp2_with fail
  refine wp_label_one 0 (RListCsAt w p q most f s) (fun a' _ => (intOf (a'.tmps.getD 7 undef)).toNat - slen (a'.tmps.getD 8 undef)) rfl ?_ ?_
  · intro K h0 hr hn'
    generalize tkN (most : Int) s = t at *
    obtain ⟨k, t⟩ := t
    simp only [] at C hle HRL
    go_wp2_with fail
    refine C.mono ?_
    rintro x w1 ⟨rfl, r1, f1⟩
    have MK := run_makeG okCs w1 k (by omega)
    have MK' : (Instr.makeSlice 24 (.int .i64 0) (.int .i64 (k : Int))).run Tryz.prog w1 = .ok (.slice (some ⟨w1.heap.size, 0, none⟩) 0 k) (w1.alloc (.cells (madeCells elCs.z.cells (k * 5)) 39)) := MK
    have OM : OwnG elCs (w1.alloc (.cells (madeCells elCs.z.cells (k * 5)) 39)) (.slice (some ⟨w1.heap.size, 0, none⟩) 0 k) [] := ownG_made okCs w1 k (by unfold maxLen; omega)
    have fa : Fr no w1 (w1.alloc (.cells (madeCells elCs.z.cells (k * 5)) 39)) := (Fr.refl no w1).alloc _ _
    clear MK
    generalize w1.alloc (.cells (madeCells elCs.z.cells (k * 5)) 39) = W at MK' OM fa
    go_wp2_with fail
    go_step3
    rename_i hk
    refine hk _ _ (h0 _ _ ⟨k, [], t, .slice (some ⟨w1.heap.size, 0, none⟩) 0 k, _, _, _, _, _, _, _, _, _, _, _, _, _, _, _, _, _, _, _, _, _, _, _, _, _, _, _, rfl, hle, Nat.zero_le _, OM, ?_, r1.new fa, f1.trans fa (fun _ _ e => e) (fun _ _ f => f.elim), ?_⟩)
    · intro i hi
      simp only [Value.ownBlock, Option.some.injEq] at hi
      subst hi
      exact f1.size
    · rw [HRL.out]; rfl
  · clear C hle HRL
    rintro a' w' ⟨k, acc, s', u8, u3, u4, u5, u6, u9, u10, u11, u12, u13, u14, u15, u16, u17, u18, u19, u20, u21, u22, u23, u24, u25, u26, u27, u28, u29, u30, u31, rfl, hk, hacc, ho, ho0, hr1, hf1, hloop⟩ K hj hr hn'
    have HL : Hid (rLoop f (k - acc.length) acc s' = rL most f s) := hloop
    clear hloop
    obtain ⟨o, cap, eo⟩ := ho.form
    have eo : u8 = .slice o acc.length cap := eo
    obtain ⟨c0, c1, z1⟩ := RS.cells hr1
    by_cases hend : acc.length = k
    · have E : Hid (rL most f s = (acc, s')) := by show _ = _; rw [← HL.out, show k - acc.length = 0 by omega]; rfl
      have hq : ((acc.length : Int) == (k : Int)) = true := by simp; omega
      subst eo
      clear hend
      go_wp2_with fail
      refine hr _ _ ?_
      go_ret
      rw [E.out]
      exact ⟨_, rfl, ho, hr1, hf1⟩
    · have hq : ((acc.length : Int) == (k : Int)) = false := by simp; omega
      have hstep : rLoop f (k - acc.length) acc s' = if s'.2 ≠ 0 then (acc, s') else rLoop f (k - (acc.length + 1)) (acc ++ [(f s').1]) (f s').2 := by
        rw [show k - acc.length = (k - (acc.length + 1)) + 1 by omega]
        rfl
      rw [HL.out] at hstep
      obtain ⟨l', e'⟩ := s'
      simp only [] at hstep c0 c1
      by_cases he : e' = 0
      · subst he
        rw [if_neg (by simp)] at hstep
        have HS : Hid (rL most f s = rLoop f (k - (acc.length + 1)) (acc ++ [(f (l', 0)).1]) (f (l', 0)).2) := hstep
        have R := HREAD.out w' (l', 0) hr1 hf1
        clear hstep
        generalize f (l', 0) = t at *
        obtain ⟨x, t⟩ := t
        simp only [] at R HS
        subst eo
        go_wp2_with fail
        refine R.mono ?_
        rintro x' w2 ⟨rfl, r2, g2⟩
        have o2 := ho.beside hr1 (by decide) (by decide) g2
        have fA : Fr no w2 (w2.alloc (.cells #[.int .i64 x.k, .int .i64 x.n, .complex .f64 x.re x.im, .string x.c, .string x.m] 39)) := (Fr.refl no w2).alloc _ _
        have o3 := o2.kept fA (fun _ _ f => f)
        have r3 := r2.new fA
        have hS : Src Tryz.prog 5 24 (.slice (some ⟨w2.heap.size, 0, none⟩) 1 1) ([x] : List Cs).length (cg elCs [x]) (w2.alloc (.cells #[.int .i64 x.k, .int .i64 x.n, .complex .f64 x.re x.im, .string x.c, .string x.m] 39)) := srcG_one okCs w2 x
        have hbb : acc.length + ([x] : List Cs).length ≤ 1000000 := by simp; omega
        have f3 : Fr (PQ p q) w (w2.alloc (.cells #[.int .i64 x.k, .int .i64 x.n, .complex .f64 x.re x.im, .string x.c, .string x.m] 39)) := (hf1.trans g2 (fun _ _ e => e) (fun _ _ e => e)).trans fA (fun _ _ e => e) (fun _ _ f => f.elim)
        have B : Hid (∀ v4 w4, Sp no (.slice o acc.length cap) (w2.alloc (.cells #[.int .i64 x.k, .int .i64 x.n, .complex .f64 x.re x.im, .string x.c, .string x.m] 39)) v4 w4 → RT w4 p q t ∧ Fr (PQ p q) w w4 ∧ (∀ i, v4.ownBlock = some i → w.heap.size ≤ i)) := by
          intro v4 w4 s4
          have hS4 : ∀ k, (no k ∨ (Value.slice o acc.length cap).ownBlock = some k) → k ≠ p ∧ k ≠ q ∧ ∀ cur t fz, (w2.alloc (.cells #[.int .i64 x.k, .int .i64 x.n, .complex .f64 x.re x.im, .string x.c, .string x.m] 39)).heap[k]? = some (.cells cur t fz) → ∀ u ∈ cur.toList, nob u := by
            rintro k (hk | hk)
            · exact hk.elim
            · have hk0 := ho0 k hk
              exact ⟨by omega, by omega, fun cur t fz hc => o3.2 k cur t fz hk hc⟩
          refine ⟨RT.away r3 hS4 s4.1, f3.trans s4.1 (fun _ _ e => e) (fun i hi e => e.elim (fun e => e.elim) (fun e => by have := ho0 i e; omega)), fun i hi => ?_⟩
          rcases Nat.lt_or_ge i (w2.alloc (.cells #[.int .i64 x.k, .int .i64 x.n, .complex .f64 x.re x.im, .string x.c, .string x.m] 39)).heap.size with hh | hh
          · exact ho0 i (s4.2 i hh hi)
          · exact Nat.le_trans f3.size hh
        clear R o2 hf1 fA f3 g2 hr1
        go_wp2_with (at_builtin; refine wpList_apdG okCs _ rfl rfl (.tmp 26) (.tmp 30) rfl _ acc rfl o3 _ rfl [x] hS (by simp) hbb ?_; intro v4 w4 o4 s4; have b4 := B.out v4 w4 s4; obtain ⟨oo, cc, e4⟩ := o4.form; rw [List.length_append] at e4; subst e4)
        go_step3
        refine hj _ _ ⟨k, acc ++ [x], t, _, _, _, _, _, _, _, _, _, _, _, _, _, _, _, _, _, _, _, _, _, _, _, _, _, _, _, _, rfl, hk, by simp; omega, o4, b4.2.2, b4.1, b4.2.1, ?_⟩ ?_
        · rw [HS.out, List.length_append]; rfl
        · simp [intOf, slen]; omega
      · rw [if_pos he] at hstep
        have E : Hid (rL most f s = (acc, (l', e'))) := hstep
        have he' : ((e' : Int) == 0) = false := beq_eq_false_iff_ne.2 (by omega)
        subst eo
        clear hstep
        go_wp2_with fail
        refine hr _ _ ?_
        go_ret
        rw [E.out]
        exact ⟨_, rfl, ho, hr1, hf1⟩

def RListFdAt (w0 : World) (p q : Nat) (most : Nat) (f : St → Fd × St) (s : St) (a : Act) (w : World) : Prop :=
  ∃ (k : Nat) (acc : List Fd) (s' : St) (u8 : Value) (u3 u4 u5 u6 u9 u10 u11 u12 u13 u14 u15 u16 u17 u18 u19 u20 u21 u22 u23 u24 u25 u26 u27 u28 u29 u30 u31 : Value),
    a = { tmps := #[.pointer (some ⟨p, 0, none⟩), .int .i64 (most : Int), .func (.func 22) #[] #[], u3, u4, u5, u6, .int .i64 (k : Int), u8, u9, u10, u11, u12, u13, u14, u15, u16, u17, u18, u19, u20, u21, u22, u23, u24, u25, u26, u27, u28, u29, u30, u31], defers := [] } ∧ k ≤ most ∧ acc.length ≤ k ∧ (OwnG elFd w u8 acc) ∧ (∀ i, u8.ownBlock = some i → w0.heap.size ≤ i) ∧
    RT w p q s' ∧ Fr (PQ p q) w0 w ∧ rLoop f (k - acc.length) acc s' = rL most f s

set_option maxRecDepth 100000 in
set_option maxHeartbeats 4000000 in
theorem readFd_list (w : World) (p q : Nat) (s : St) (h : RT w p q s) (most : Nat) (hmost : most ≤ 1000) (f : St → Fd × St)
    (READ : ∀ w1 s1, RT w1 p q s1 → Fr (PQ p q) w w1 → Calls Tryz.prog 22 #[.pointer (some ⟨p, 0, none⟩)] w1 fun x w' => x = .returned (.agg #[.string (f s1).1.name, .int .i64 (f s1).1.ty.k, .string (f s1).1.ty.c, .bool (f s1).1.vol]) ∧ RT w' p q (f s1).2 ∧ Fr (PQ p q) w1 w') :
    Calls Tryz.prog 21 #[.pointer (some ⟨p, 0, none⟩), .int .i64 (most : Int), .func (.func 22) #[] #[]] w fun x w' => ∃ v, x = .returned v ∧ (OwnG elFd w' v (rL most f s).1) ∧ RT w' p q (rL most f s).2 ∧ Fr (PQ p q) w w' := by
  have C := rCount_any w p q s h (most : Int) (by omega) (by omega)
  have hle := tkN_le most s
  have HRL : Hid (rL most f s = rLoop f (tkN (most : Int) s).1 [] (tkN (most : Int) s).2) := rfl
  have HREAD : Hid (∀ w1 s1, RT w1 p q s1 → Fr (PQ p q) w w1 → Calls Tryz.prog 22 #[.pointer (some ⟨p, 0, none⟩)] w1 fun x w' => x = .returned (.agg #[.string (f s1).1.name, .int .i64 (f s1).1.ty.k, .string (f s1).1.ty.c, .bool (f s1).1.vol]) ∧ RT w' p q (f s1).2 ∧ Fr (PQ p q) w1 w') := READ
  have hlt0 := h.lt
  clear READ
  go_enter Tryz.func21, Tryz.ntmps21
  go_wp2_with fail
  refine wp_label_one 0 (RListFdAt w p q most f s) (fun a' _ => (intOf (a'.tmps.getD 7 undef)).toNat - slen (a'.tmps.getD 8 undef)) rfl ?_ ?_
  · intro K h0 hr hn'
    generalize tkN (most : Int) s = t at *
    obtain ⟨k, t⟩ := t
    simp only [] at C hle HRL
    go_wp2_with fail
    refine C.mono ?_
    rintro x w1 ⟨rfl, r1, f1⟩
    have MK := run_makeG okFd w1 k (by omega)
    have MK' : (Instr.makeSlice 25 (.int .i64 0) (.int .i64 (k : Int))).run Tryz.prog w1 = .ok (.slice (some ⟨w1.heap.size, 0, none⟩) 0 k) (w1.alloc (.cells (madeCells elFd.z.cells (k * 4)) 48)) := MK
    have OM : OwnG elFd (w1.alloc (.cells (madeCells elFd.z.cells (k * 4)) 48)) (.slice (some ⟨w1.heap.size, 0, none⟩) 0 k) [] := ownG_made okFd w1 k (by unfold maxLen; omega)
    have fa : Fr no w1 (w1.alloc (.cells (madeCells elFd.z.cells (k * 4)) 48)) := (Fr.refl no w1).alloc _ _
    clear MK
    generalize w1.alloc (.cells (madeCells elFd.z.cells (k * 4)) 48) = W at MK' OM fa
    go_wp2_with fail
    go_step3
    rename_i hk
    refine hk _ _ (h0 _ _ ⟨k, [], t, .slice (some ⟨w1.heap.size, 0, none⟩) 0 k, _, _, _, _, _, _, _, _, _, _, _, _, _, _, _, _, _, _, _, _, _, _, _, _, _, _, _, rfl, hle, Nat.zero_le _, OM, ?_, r1.new fa, f1.trans fa (fun _ _ e => e) (fun _ _ f => f.elim), ?_⟩)
    · intro i hi
      simp only [Value.ownBlock, Option.some.injEq] at hi
      subst hi
      exact f1.size
    · rw [HRL.out]; rfl
  · clear C hle HRL
    rintro a' w' ⟨k, acc, s', u8, u3, u4, u5, u6, u9, u10, u11, u12, u13, u14, u15, u16, u17, u18, u19, u20, u21, u22, u23, u24, u25, u26, u27, u28, u29, u30, u31, rfl, hk, hacc, ho, ho0, hr1, hf1, hloop⟩ K hj hr hn'
    have HL : Hid (rLoop f (k - acc.length) acc s' = rL most f s) := hloop
    clear hloop
    obtain ⟨o, cap, eo⟩ := ho.form
    have eo : u8 = .slice o acc.length cap := eo
    obtain ⟨c0, c1, z1⟩ := RS.cells hr1
    by_cases hend : acc.length = k
    · have E : Hid (rL most f s = (acc, s')) := by show _ = _; rw [← HL.out, show k - acc.length = 0 by omega]; rfl
      have hq : ((acc.length : Int) == (k : Int)) = true := by simp; omega
      subst eo
      clear hend
      go_wp2_with fail
      refine hr _ _ ?_
      go_ret
      rw [E.out]
      exact ⟨_, rfl, ho, hr1, hf1⟩
    · have hq : ((acc.length : Int) == (k : Int)) = false := by simp; omega
      have hstep : rLoop f (k - acc.length) acc s' = if s'.2 ≠ 0 then (acc, s') else rLoop f (k - (acc.length + 1)) (acc ++ [(f s').1]) (f s').2 := by
        rw [show k - acc.length = (k - (acc.length + 1)) + 1 by omega]
        rfl
      rw [HL.out] at hstep
      obtain ⟨l', e'⟩ := s'
      simp only [] at hstep c0 c1
      by_cases he : e' = 0
      · subst he
        rw [if_neg (by simp)] at hstep
        have HS : Hid (rL most f s = rLoop f (k - (acc.length + 1)) (acc ++ [(f (l', 0)).1]) (f (l', 0)).2) := hstep
        have R := HREAD.out w' (l', 0) hr1 hf1
        clear hstep
        generalize f (l', 0) = t at *
        obtain ⟨x, t⟩ := t
        simp only [] at R HS
        subst eo
        go_wp2_with fail
        refine R.mono ?_
        rintro x' w2 ⟨rfl, r2, g2⟩
        have o2 := ho.beside hr1 (by decide) (by decide) g2
        have fA : Fr no w2 (w2.alloc (.cells #[.string x.name, .int .i64 x.ty.k, .string x.ty.c, .bool x.vol] 48)) := (Fr.refl no w2).alloc _ _
        have o3 := o2.kept fA (fun _ _ f => f)
        have r3 := r2.new fA
        have hS : Src Tryz.prog 4 25 (.slice (some ⟨w2.heap.size, 0, none⟩) 1 1) ([x] : List Fd).length (cg elFd [x]) (w2.alloc (.cells #[.string x.name, .int .i64 x.ty.k, .string x.ty.c, .bool x.vol] 48)) := srcG_one okFd w2 x
        have hbb : acc.length + ([x] : List Fd).length ≤ 1000000 := by simp; omega
        have f3 : Fr (PQ p q) w (w2.alloc (.cells #[.string x.name, .int .i64 x.ty.k, .string x.ty.c, .bool x.vol] 48)) := (hf1.trans g2 (fun _ _ e => e) (fun _ _ e => e)).trans fA (fun _ _ e => e) (fun _ _ f => f.elim)
        have B : Hid (∀ v4 w4, Sp no (.slice o acc.length cap) (w2.alloc (.cells #[.string x.name, .int .i64 x.ty.k, .string x.ty.c, .bool x.vol] 48)) v4 w4 → RT w4 p q t ∧ Fr (PQ p q) w w4 ∧ (∀ i, v4.ownBlock = some i → w.heap.size ≤ i)) := by
          intro v4 w4 s4
          have hS4 : ∀ k, (no k ∨ (Value.slice o acc.length cap).ownBlock = some k) → k ≠ p ∧ k ≠ q ∧ ∀ cur t fz, (w2.alloc (.cells #[.string x.name, .int .i64 x.ty.k, .string x.ty.c, .bool x.vol] 48)).heap[k]? = some (.cells cur t fz) → ∀ u ∈ cur.toList, nob u := by
            rintro k (hk | hk)
            · exact hk.elim
            · have hk0 := ho0 k hk
              exact ⟨by omega, by omega, fun cur t fz hc => o3.2 k cur t fz hk hc⟩
          refine ⟨RT.away r3 hS4 s4.1, f3.trans s4.1 (fun _ _ e => e) (fun i hi e => e.elim (fun e => e.elim) (fun e => by have := ho0 i e; omega)), fun i hi => ?_⟩
          rcases Nat.lt_or_ge i (w2.alloc (.cells #[.string x.name, .int .i64 x.ty.k, .string x.ty.c, .bool x.vol] 48)).heap.size with hh | hh
          · exact ho0 i (s4.2 i hh hi)
          · exact Nat.le_trans f3.size hh
        clear R o2 hf1 fA f3 g2 hr1
        go_wp2_with (at_builtin; refine wpList_apdG okFd _ rfl rfl (.tmp 26) (.tmp 30) rfl _ acc rfl o3 _ rfl [x] hS (by simp) hbb ?_; intro v4 w4 o4 s4; have b4 := B.out v4 w4 s4; obtain ⟨oo, cc, e4⟩ := o4.form; rw [List.length_append] at e4; subst e4)
        go_step3
        refine hj _ _ ⟨k, acc ++ [x], t, _, _, _, _, _, _, _, _, _, _, _, _, _, _, _, _, _, _, _, _, _, _, _, _, _, _, _, _, rfl, hk, by simp; omega, o4, b4.2.2, b4.1, b4.2.1, ?_⟩ ?_
        · rw [HS.out, List.length_append]; rfl
        · simp [intOf, slen]; omega
      · rw [if_pos he] at hstep
        have E : Hid (rL most f s = (acc, (l', e'))) := hstep
        have he' : ((e' : Int) == 0) = false := beq_eq_false_iff_ne.2 (by omega)
        subst eo
        clear hstep
        go_wp2_with fail
        refine hr _ _ ?_
        go_ret
        rw [E.out]
        exact ⟨_, rfl, ho, hr1, hf1⟩

def RListTyAt (w0 : World) (p q : Nat) (most : Nat) (f : St → Ty × St) (s : St) (a : Act) (w : World) : Prop :=
  ∃ (k : Nat) (acc : List Ty) (s' : St) (u8 : Value) (u3 u4 u5 u6 u9 u10 u11 u12 u13 u14 u15 u16 u17 u18 u19 u20 u21 u22 u23 u24 u25 u26 u27 u28 u29 u30 u31 : Value),
    a = { tmps := #[.pointer (some ⟨p, 0, none⟩), .int .i64 (most : Int), .func (.func 68) #[] #[], u3, u4, u5, u6, .int .i64 (k : Int), u8, u9, u10, u11, u12, u13, u14, u15, u16, u17, u18, u19, u20, u21, u22, u23, u24, u25, u26, u27, u28, u29, u30, u31], defers := [] } ∧ k ≤ most ∧ acc.length ≤ k ∧ (OwnG elTy w u8 acc) ∧ (∀ i, u8.ownBlock = some i → w0.heap.size ≤ i) ∧
    RT w p q s' ∧ Fr (PQ p q) w0 w ∧ rLoop f (k - acc.length) acc s' = rL most f s

set_option maxRecDepth 100000 in
set_option maxHeartbeats 4000000 in
theorem readTy_list (w : World) (p q : Nat) (s : St) (h : RT w p q s) (most : Nat) (hmost : most ≤ 1000) (f : St → Ty × St)
    (READ : ∀ w1 s1, RT w1 p q s1 → Fr (PQ p q) w w1 → Calls Tryz.prog 68 #[.pointer (some ⟨p, 0, none⟩)] w1 fun x w' => x = .returned (.agg #[.int .i64 (f s1).1.k, .string (f s1).1.c]) ∧ RT w' p q (f s1).2 ∧ Fr (PQ p q) w1 w') :
    Calls Tryz.prog 70 #[.pointer (some ⟨p, 0, none⟩), .int .i64 (most : Int), .func (.func 68) #[] #[]] w fun x w' => ∃ v, x = .returned v ∧ (OwnG elTy w' v (rL most f s).1) ∧ RT w' p q (rL most f s).2 ∧ Fr (PQ p q) w w' := by
  have C := rCount_any w p q s h (most : Int) (by omega) (by omega)
  have hle := tkN_le most s
  have HRL : Hid (rL most f s = rLoop f (tkN (most : Int) s).1 [] (tkN (most : Int) s).2) := rfl
  have HREAD : Hid (∀ w1 s1, RT w1 p q s1 → Fr (PQ p q) w w1 → Calls Tryz.prog 68 #[.pointer (some ⟨p, 0, none⟩)] w1 fun x w' => x = .returned (.agg #[.int .i64 (f s1).1.k, .string (f s1).1.c]) ∧ RT w' p q (f s1).2 ∧ Fr (PQ p q) w1 w') := READ
  have hlt0 := h.lt
  clear READ
  go_enter Tryz.func70, Tryz.ntmps70
  go_wp2_with fail
  refine wp_label_one 0 (RListTyAt w p q most f s) (fun a' _ => (intOf (a'.tmps.getD 7 undef)).toNat - slen (a'.tmps.getD 8 undef)) rfl ?_ ?_
  · intro K h0 hr hn'
    generalize tkN (most : Int) s = t at *
    obtain ⟨k, t⟩ := t
    simp only [] at C hle HRL
    go_wp2_with fail
    refine C.mono ?_
    rintro x w1 ⟨rfl, r1, f1⟩
    have MK := run_makeG okTy w1 k (by omega)
    have MK' : (Instr.makeSlice 49 (.int .i64 0) (.int .i64 (k : Int))).run Tryz.prog w1 = .ok (.slice (some ⟨w1.heap.size, 0, none⟩) 0 k) (w1.alloc (.cells (madeCells elTy.z.cells (k * 2)) 46)) := MK
    have OM : OwnG elTy (w1.alloc (.cells (madeCells elTy.z.cells (k * 2)) 46)) (.slice (some ⟨w1.heap.size, 0, none⟩) 0 k) [] := ownG_made okTy w1 k (by unfold maxLen; omega)
    have fa : Fr no w1 (w1.alloc (.cells (madeCells elTy.z.cells (k * 2)) 46)) := (Fr.refl no w1).alloc _ _
    clear MK
    generalize w1.alloc (.cells (madeCells elTy.z.cells (k * 2)) 46) = W at MK' OM fa
    go_wp2_with fail
    go_step3
    rename_i hk
    refine hk _ _ (h0 _ _ ⟨k, [], t, .slice (some ⟨w1.heap.size, 0, none⟩) 0 k, _, _, _, _, _, _, _, _, _, _, _, _, _, _, _, _, _, _, _, _, _, _, _, _, _, _, _, rfl, hle, Nat.zero_le _, OM, ?_, r1.new fa, f1.trans fa (fun _ _ e => e) (fun _ _ f => f.elim), ?_⟩)
    · intro i hi
      simp only [Value.ownBlock, Option.some.injEq] at hi
      subst hi
      exact f1.size
    · rw [HRL.out]; rfl
  · clear C hle HRL
    rintro a' w' ⟨k, acc, s', u8, u3, u4, u5, u6, u9, u10, u11, u12, u13, u14, u15, u16, u17, u18, u19, u20, u21, u22, u23, u24, u25, u26, u27, u28, u29, u30, u31, rfl, hk, hacc, ho, ho0, hr1, hf1, hloop⟩ K hj hr hn'
    have HL : Hid (rLoop f (k - acc.length) acc s' = rL most f s) := hloop
    clear hloop
    obtain ⟨o, cap, eo⟩ := ho.form
    have eo : u8 = .slice o acc.length cap := eo
    obtain ⟨c0, c1, z1⟩ := RS.cells hr1
    by_cases hend : acc.length = k
    · have E : Hid (rL most f s = (acc, s')) := by show _ = _; rw [← HL.out, show k - acc.length = 0 by omega]; rfl
      have hq : ((acc.length : Int) == (k : Int)) = true := by simp; omega
      subst eo
      clear hend
      go_wp2_with fail
      refine hr _ _ ?_
      go_ret
      rw [E.out]
      exact ⟨_, rfl, ho, hr1, hf1⟩
    · have hq : ((acc.length : Int) == (k : Int)) = false := by simp; omega
      have hstep : rLoop f (k - acc.length) acc s' = if s'.2 ≠ 0 then (acc, s') else rLoop f (k - (acc.length + 1)) (acc ++ [(f s').1]) (f s').2 := by
        rw [show k - acc.length = (k - (acc.length + 1)) + 1 by omega]
        rfl
      rw [HL.out] at hstep
      obtain ⟨l', e'⟩ := s'
      simp only [] at hstep c0 c1
      by_cases he : e' = 0
      · subst he
        rw [if_neg (by simp)] at hstep
        have HS : Hid (rL most f s = rLoop f (k - (acc.length + 1)) (acc ++ [(f (l', 0)).1]) (f (l', 0)).2) := hstep
        have R := HREAD.out w' (l', 0) hr1 hf1
        clear hstep
        generalize f (l', 0) = t at *
        obtain ⟨x, t⟩ := t
        simp only [] at R HS
        subst eo
        go_wp2_with fail
        refine R.mono ?_
        rintro x' w2 ⟨rfl, r2, g2⟩
        have o2 := ho.beside hr1 (by decide) (by decide) g2
        have fA : Fr no w2 (w2.alloc (.cells #[.int .i64 x.k, .string x.c] 46)) := (Fr.refl no w2).alloc _ _
        have o3 := o2.kept fA (fun _ _ f => f)
        have r3 := r2.new fA
        have hS : Src Tryz.prog 2 49 (.slice (some ⟨w2.heap.size, 0, none⟩) 1 1) ([x] : List Ty).length (cg elTy [x]) (w2.alloc (.cells #[.int .i64 x.k, .string x.c] 46)) := srcG_one okTy w2 x
        have hbb : acc.length + ([x] : List Ty).length ≤ 1000000 := by simp; omega
        have f3 : Fr (PQ p q) w (w2.alloc (.cells #[.int .i64 x.k, .string x.c] 46)) := (hf1.trans g2 (fun _ _ e => e) (fun _ _ e => e)).trans fA (fun _ _ e => e) (fun _ _ f => f.elim)
        have B : Hid (∀ v4 w4, Sp no (.slice o acc.length cap) (w2.alloc (.cells #[.int .i64 x.k, .string x.c] 46)) v4 w4 → RT w4 p q t ∧ Fr (PQ p q) w w4 ∧ (∀ i, v4.ownBlock = some i → w.heap.size ≤ i)) := by
          intro v4 w4 s4
          have hS4 : ∀ k, (no k ∨ (Value.slice o acc.length cap).ownBlock = some k) → k ≠ p ∧ k ≠ q ∧ ∀ cur t fz, (w2.alloc (.cells #[.int .i64 x.k, .string x.c] 46)).heap[k]? = some (.cells cur t fz) → ∀ u ∈ cur.toList, nob u := by
            rintro k (hk | hk)
            · exact hk.elim
            · have hk0 := ho0 k hk
              exact ⟨by omega, by omega, fun cur t fz hc => o3.2 k cur t fz hk hc⟩
          refine ⟨RT.away r3 hS4 s4.1, f3.trans s4.1 (fun _ _ e => e) (fun i hi e => e.elim (fun e => e.elim) (fun e => by have := ho0 i e; omega)), fun i hi => ?_⟩
          rcases Nat.lt_or_ge i (w2.alloc (.cells #[.int .i64 x.k, .string x.c] 46)).heap.size with hh | hh
          · exact ho0 i (s4.2 i hh hi)
          · exact Nat.le_trans f3.size hh
        clear R o2 hf1 fA f3 g2 hr1
        go_wp2_with (at_builtin; refine wpList_apdG okTy _ rfl rfl (.tmp 26) (.tmp 30) rfl _ acc rfl o3 _ rfl [x] hS (by simp) hbb ?_; intro v4 w4 o4 s4; have b4 := B.out v4 w4 s4; obtain ⟨oo, cc, e4⟩ := o4.form; rw [List.length_append] at e4; subst e4)
        go_step3
        refine hj _ _ ⟨k, acc ++ [x], t, _, _, _, _, _, _, _, _, _, _, _, _, _, _, _, _, _, _, _, _, _, _, _, _, _, _, _, _, rfl, hk, by simp; omega, o4, b4.2.2, b4.1, b4.2.1, ?_⟩ ?_
        · rw [HS.out, List.length_append]; rfl
        · simp [intOf, slen]; omega
      · rw [if_pos he] at hstep
        have E : Hid (rL most f s = (acc, (l', e'))) := hstep
        have he' : ((e' : Int) == 0) = false := beq_eq_false_iff_ne.2 (by omega)
        subst eo
        clear hstep
        go_wp2_with fail
        refine hr _ _ ?_
        go_ret
        rw [E.out]
        exact ⟨_, rfl, ho, hr1, hf1⟩

def RListHdAt (w0 : World) (p q : Nat) (most : Nat) (f : St → Hd × St) (s : St) (a : Act) (w : World) : Prop :=
  ∃ (k : Nat) (acc : List Hd) (s' : St) (u8 : Value) (u3 u4 u5 u6 u9 u10 u11 u12 u13 u14 u15 u16 u17 u18 u19 u20 u21 u22 u23 u24 u25 u26 u27 u28 u29 u30 u31 : Value),
    a = { tmps := #[.pointer (some ⟨p, 0, none⟩), .int .i64 (most : Int), .func (.func 73) #[] #[], u3, u4, u5, u6, .int .i64 (k : Int), u8, u9, u10, u11, u12, u13, u14, u15, u16, u17, u18, u19, u20, u21, u22, u23, u24, u25, u26, u27, u28, u29, u30, u31], defers := [] } ∧ k ≤ most ∧ acc.length ≤ k ∧ (OwnG elHd w u8 acc) ∧ (∀ i, u8.ownBlock = some i → w0.heap.size ≤ i) ∧
    RT w p q s' ∧ Fr (PQ p q) w0 w ∧ rLoop f (k - acc.length) acc s' = rL most f s

set_option maxRecDepth 100000 in
set_option maxHeartbeats 4000000 in
theorem readHd_list (w : World) (p q : Nat) (s : St) (h : RT w p q s) (most : Nat) (hmost : most ≤ 1000) (f : St → Hd × St)
    (READ : ∀ w1 s1, RT w1 p q s1 → Fr (PQ p q) w w1 → Calls Tryz.prog 73 #[.pointer (some ⟨p, 0, none⟩)] w1 fun x w' => x = .returned (.agg #[.int .i64 (f s1).1.fr, .int .i64 (f s1).1.to, .int .i64 (f s1).1.tg, .int .i64 (f s1).1.cl, .int .i64 (f s1).1.dp]) ∧ RT w' p q (f s1).2 ∧ Fr (PQ p q) w1 w') :
    Calls Tryz.prog 72 #[.pointer (some ⟨p, 0, none⟩), .int .i64 (most : Int), .func (.func 73) #[] #[]] w fun x w' => ∃ v, x = .returned v ∧ (OwnG elHd w' v (rL most f s).1) ∧ RT w' p q (rL most f s).2 ∧ Fr (PQ p q) w w' := by
  have C := rCount_any w p q s h (most : Int) (by omega) (by omega)
  have hle := tkN_le most s
  have HRL : Hid (rL most f s = rLoop f (tkN (most : Int) s).1 [] (tkN (most : Int) s).2) := rfl
  have HREAD : Hid (∀ w1 s1, RT w1 p q s1 → Fr (PQ p q) w w1 → Calls Tryz.prog 73 #[.pointer (some ⟨p, 0, none⟩)] w1 fun x w' => x = .returned (.agg #[.int .i64 (f s1).1.fr, .int .i64 (f s1).1.to, .int .i64 (f s1).1.tg, .int .i64 (f s1).1.cl, .int .i64 (f s1).1.dp]) ∧ RT w' p q (f s1).2 ∧ Fr (PQ p q) w1 w') := READ
  have hlt0 := h.lt
  clear READ
  go_enter Tryz.func72, Tryz.ntmps72
  go_wp2_with fail
  refine wp_label_one 0 (RListHdAt w p q most f s) (fun a' _ => (intOf (a'.tmps.getD 7 undef)).toNat - slen (a'.tmps.getD 8 undef)) rfl ?_ ?_
  · intro K h0 hr hn'
    generalize tkN (most : Int) s = t at *
    obtain ⟨k, t⟩ := t
    simp only [] at C hle HRL
    go_wp2_with fail
    refine C.mono ?_
    rintro x w1 ⟨rfl, r1, f1⟩
    have MK := run_makeG okHd w1 k (by omega)
    have MK' : (Instr.makeSlice 51 (.int .i64 0) (.int .i64 (k : Int))).run Tryz.prog w1 = .ok (.slice (some ⟨w1.heap.size, 0, none⟩) 0 k) (w1.alloc (.cells (madeCells elHd.z.cells (k * 5)) 59)) := MK
    have OM : OwnG elHd (w1.alloc (.cells (madeCells elHd.z.cells (k * 5)) 59)) (.slice (some ⟨w1.heap.size, 0, none⟩) 0 k) [] := ownG_made okHd w1 k (by unfold maxLen; omega)
    have fa : Fr no w1 (w1.alloc (.cells (madeCells elHd.z.cells (k * 5)) 59)) := (Fr.refl no w1).alloc _ _
    clear MK
    generalize w1.alloc (.cells (madeCells elHd.z.cells (k * 5)) 59) = W at MK' OM fa
    go_wp2_with fail
    go_step3
    rename_i hk
    refine hk _ _ (h0 _ _ ⟨k, [], t, .slice (some ⟨w1.heap.size, 0, none⟩) 0 k, _, _, _, _, _, _, _, _, _, _, _, _, _, _, _, _, _, _, _, _, _, _, _, _, _, _, _, rfl, hle, Nat.zero_le _, OM, ?_, r1.new fa, f1.trans fa (fun _ _ e => e) (fun _ _ f => f.elim), ?_⟩)
    · intro i hi
      simp only [Value.ownBlock, Option.some.injEq] at hi
      subst hi
      exact f1.size
    · rw [HRL.out]; rfl
  · clear C hle HRL
    rintro a' w' ⟨k, acc, s', u8, u3, u4, u5, u6, u9, u10, u11, u12, u13, u14, u15, u16, u17, u18, u19, u20, u21, u22, u23, u24, u25, u26, u27, u28, u29, u30, u31, rfl, hk, hacc, ho, ho0, hr1, hf1, hloop⟩ K hj hr hn'
    have HL : Hid (rLoop f (k - acc.length) acc s' = rL most f s) := hloop
    clear hloop
    obtain ⟨o, cap, eo⟩ := ho.form
    have eo : u8 = .slice o acc.length cap := eo
    obtain ⟨c0, c1, z1⟩ := RS.cells hr1
    by_cases hend : acc.length = k
    · have E : Hid (rL most f s = (acc, s')) := by show _ = _; rw [← HL.out, show k - acc.length = 0 by omega]; rfl
      have hq : ((acc.length : Int) == (k : Int)) = true := by simp; omega
      subst eo
      clear hend
      go_wp2_with fail
      refine hr _ _ ?_
      go_ret
      rw [E.out]
      exact ⟨_, rfl, ho, hr1, hf1⟩
    · have hq : ((acc.length : Int) == (k : Int)) = false := by simp; omega
      have hstep : rLoop f (k - acc.length) acc s' = if s'.2 ≠ 0 then (acc, s') else rLoop f (k - (acc.length + 1)) (acc ++ [(f s').1]) (f s').2 := by
        rw [show k - acc.length = (k - (acc.length + 1)) + 1 by omega]
        rfl
      rw [HL.out] at hstep
      obtain ⟨l', e'⟩ := s'
      simp only [] at hstep c0 c1
      by_cases he : e' = 0
      · subst he
        rw [if_neg (by simp)] at hstep
        have HS : Hid (rL most f s = rLoop f (k - (acc.length + 1)) (acc ++ [(f (l', 0)).1]) (f (l', 0)).2) := hstep
        have R := HREAD.out w' (l', 0) hr1 hf1
        clear hstep
        generalize f (l', 0) = t at *
        obtain ⟨x, t⟩ := t
        simp only [] at R HS
        subst eo
        go_wp2_with fail
        refine R.mono ?_
        rintro x' w2 ⟨rfl, r2, g2⟩
        have o2 := ho.beside hr1 (by decide) (by decide) g2
        have fA : Fr no w2 (w2.alloc (.cells #[.int .i64 x.fr, .int .i64 x.to, .int .i64 x.tg, .int .i64 x.cl, .int .i64 x.dp] 59)) := (Fr.refl no w2).alloc _ _
        have o3 := o2.kept fA (fun _ _ f => f)
        have r3 := r2.new fA
        have hS : Src Tryz.prog 5 51 (.slice (some ⟨w2.heap.size, 0, none⟩) 1 1) ([x] : List Hd).length (cg elHd [x]) (w2.alloc (.cells #[.int .i64 x.fr, .int .i64 x.to, .int .i64 x.tg, .int .i64 x.cl, .int .i64 x.dp] 59)) := srcG_one okHd w2 x
        have hbb : acc.length + ([x] : List Hd).length ≤ 1000000 := by simp; omega
        have f3 : Fr (PQ p q) w (w2.alloc (.cells #[.int .i64 x.fr, .int .i64 x.to, .int .i64 x.tg, .int .i64 x.cl, .int .i64 x.dp] 59)) := (hf1.trans g2 (fun _ _ e => e) (fun _ _ e => e)).trans fA (fun _ _ e => e) (fun _ _ f => f.elim)
        have B : Hid (∀ v4 w4, Sp no (.slice o acc.length cap) (w2.alloc (.cells #[.int .i64 x.fr, .int .i64 x.to, .int .i64 x.tg, .int .i64 x.cl, .int .i64 x.dp] 59)) v4 w4 → RT w4 p q t ∧ Fr (PQ p q) w w4 ∧ (∀ i, v4.ownBlock = some i → w.heap.size ≤ i)) := by
          intro v4 w4 s4
          have hS4 : ∀ k, (no k ∨ (Value.slice o acc.length cap).ownBlock = some k) → k ≠ p ∧ k ≠ q ∧ ∀ cur t fz, (w2.alloc (.cells #[.int .i64 x.fr, .int .i64 x.to, .int .i64 x.tg, .int .i64 x.cl, .int .i64 x.dp] 59)).heap[k]? = some (.cells cur t fz) → ∀ u ∈ cur.toList, nob u := by
            rintro k (hk | hk)
            · exact hk.elim
            · have hk0 := ho0 k hk
              exact ⟨by omega, by omega, fun cur t fz hc => o3.2 k cur t fz hk hc⟩
          refine ⟨RT.away r3 hS4 s4.1, f3.trans s4.1 (fun _ _ e => e) (fun i hi e => e.elim (fun e => e.elim) (fun e => by have := ho0 i e; omega)), fun i hi => ?_⟩
          rcases Nat.lt_or_ge i (w2.alloc (.cells #[.int .i64 x.fr, .int .i64 x.to, .int .i64 x.tg, .int .i64 x.cl, .int .i64 x.dp] 59)).heap.size with hh | hh
          · exact ho0 i (s4.2 i hh hi)
          · exact Nat.le_trans f3.size hh
        clear R o2 hf1 fA f3 g2 hr1
        go_wp2_with (at_builtin; refine wpList_apdG okHd _ rfl rfl (.tmp 26) (.tmp 30) rfl _ acc rfl o3 _ rfl [x] hS (by simp) hbb ?_; intro v4 w4 o4 s4; have b4 := B.out v4 w4 s4; obtain ⟨oo, cc, e4⟩ := o4.form; rw [List.length_append] at e4; subst e4)
        go_step3
        refine hj _ _ ⟨k, acc ++ [x], t, _, _, _, _, _, _, _, _, _, _, _, _, _, _, _, _, _, _, _, _, _, _, _, _, _, _, _, _, rfl, hk, by simp; omega, o4, b4.2.2, b4.1, b4.2.1, ?_⟩ ?_
        · rw [HS.out, List.length_append]; rfl
        · simp [intOf, slen]; omega
      · rw [if_pos he] at hstep
        have E : Hid (rL most f s = (acc, (l', e'))) := hstep
        have he' : ((e' : Int) == 0) = false := beq_eq_false_iff_ne.2 (by omega)
        subst eo
        clear hstep
        go_wp2_with fail
        refine hr _ _ ?_
        go_ret
        rw [E.out]
        exact ⟨_, rfl, ho, hr1, hf1⟩
end Go.Proofs.YthncdbobjeeeaaaGreatDoor
