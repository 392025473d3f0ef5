/- The way up from a class, its ancestors, what is below what, what two have in common: the program's answers. -/
import Derived.Test.YtabiagheflkiaaaHier
namespace Go.Proofs.Ytabiagheflkiaaa
open Go.ChangeShapes Go.WideShapes Go.ChangeAt Go.RowKit

/-- New memory since w: v's own row isn't of w. -/
def NewV (w : World) (v : Value) : Prop := ∀ k, v.ownBlock = some k → w.heap.size ≤ k

theorem NewV.nil (w : World) : NewV w (.slice none 0 0) := fun k h => by simp [Value.ownBlock] at h

/-- Behind an append to new memory there is new memory alone. -/
theorem NewV.step {w wr w' : World} {v v' : Value} (h : NewV w v) (f : Fr no w wr) (s : Sp v wr v' w') : NewV w v' ∧ Fr no w w' := by
  refine ⟨fun k hk => ?_, f.new s.1 (fun i hi e => ?_)⟩
  · by_cases hlt : k < wr.heap.size
    · exact h k (s.2 k hlt hk)
    · have := f.size; omega
  · have := h i e; omega

def lenOf : Value → Nat
  | .slice _ k _ => k
  | _ => 0

def WayAt (w : World) (p : Nat) (A : List Nat) (n i0 : Nat) (a : Act) (wr : World) : Prop :=
  ∃ (i : Nat) (v : Value) (P : List Nat) (u2 u3 u6 u7 u8 u9 u10 u11 u12 u13 u14 u15 u16 u17 u18 u19 u20 u21 u22 u23 u24 u25 u26 u27 u28 : Value), a = { tmps := #[.pointer (some ⟨p, 0, none⟩), .int .i64 (i : Int), u2, u3, v, .bool false, u6, u7, u8, u9, u10, u11, u12, u13, u14, u15, u16, u17, u18, u19, u20, u21, u22, u23, u24, u25, u26, u27, u28], defers := [] } ∧ i < n ∧ P.length ≤ n ∧ OwnG elI wr v P ∧ NewV w v ∧ Fr no w wr ∧
    up A n i0 = (P ++ (up A (n - P.length) i).1, (up A (n - P.length) i).2)

def OutAt (w : World) (A : List Nat) (n i0 : Nat) (a : Act) (wr : World) : Prop :=
  ∃ (u0 u1 u2 u3 u6 u7 u8 u9 u10 u11 u12 u13 u14 u15 u16 u17 u18 u19 u20 u21 u22 u23 u24 u25 u26 u27 u28 : Value) (v : Value) (b : Bool), a = { tmps := #[u0, u1, u2, u3, v, .bool b, u6, u7, u8, u9, u10, u11, u12, u13, u14, u15, u16, u17, u18, u19, u20, u21, u22, u23, u24, u25, u26, u27, u28], defers := [] } ∧ OwnG elI wr v (up A n i0).1 ∧ NewV w v ∧ Fr no w wr ∧ b = (up A n i0).2

set_option maxRecDepth 100000 in
set_option maxHeartbeats 1000000 in
theorem way_any {c : Nat} (w : World) (p : Nat) (N : List ByteArray) (A : List Nat) (h : HB c w p N A) (hA : Fine N.length A) (hN : N.length ≤ 1000) (i0 : Nat) (hi0 : i0 < N.length) :
    Calls Try.prog 35 #[.pointer (some ⟨p, 0, none⟩), .int .i64 (i0 : Int)] w fun e w' => ∃ v, e = .returned (.tuple #[v, .bool (up A N.length i0).2]) ∧ OwnG elI w' v (up A N.length i0).1 ∧ NewV w v ∧ Fr no w w' := by
  have HBK : Hid (HB c w p N A) := h
  clear h
  generalize hn : N.length = n at *
  go_enter Try.func35, Try.ntmps35
  go_wp2_with fail
  refine wp_label_two 1 0 (by decide) (WayAt w p A n i0) (OutAt w A n i0) (fun a' _ => n - lenOf (a'.tmps.getD 4 undef)) rfl rfl ?_ ?_ ?_
  · intro K h0 h1 hr
    go_wp2_with fail
    go_step3
    rename_i hk
    exact hk _ _ (h0 _ _ ⟨i0, _, [], _, _, _, _, _, _, _, _, _, _, _, _, _, _, _, _, _, _, _, _, _, _, _, _, _, rfl, hi0, Nat.zero_le _, OwnG.nil _ _, NewV.nil _, Fr.refl _ _, by simp⟩)
  · rintro a' wr ⟨i, v, P, u2, u3, u6, u7, u8, u9, u10, u11, u12, u13, u14, u15, u16, u17, u18, u19, u20, u21, u22, u23, u24, u25, u26, u27, u28, rfl, hi, hP, ho, hv, hf, he⟩ K hj h1 hr
    obtain ⟨o, cp, hvf⟩ := ho.form
    have HE : Hid (up A n i0 = (P ++ (up A (n - P.length) i).1, (up A (n - P.length) i).2)) := he
    have HO : Hid (OwnG elI wr v P) := ho
    have HV : Hid (NewV w v) := hv
    have HF : Hid (Fr no w wr) := hf
    obtain ⟨vn, va, m, D, g1, g2, g3, -⟩ := HBK.out.keep hf
    obtain ⟨c0, -, -⟩ := cells3 g1
    obtain ⟨on, cn, rfl⟩ := g2.form
    rw [hn] at c0
    clear ho hv hf he g1 g2 g3
    subst hvf
    generalize hk : P.length = k at *
    by_cases hfull : k = n
    · subst hfull
      have HB2 : Hid (up A k i0 = (P, false)) := by
        show _ = _
        rw [HE.out, Nat.sub_self]
        simp [up]
      go_wp2_with fail
      go_step3
      refine h1 _ _ ⟨_, _, _, _, _, _, _, _, _, _, _, _, _, _, _, _, _, _, _, _, _, _, _, _, _, _, _, _, _, rfl, ?_, HV.out, HF.out, ?_⟩
      · rw [HB2.out]; exact HO.out
      · rw [HB2.out]
    · have hq : ((k : Int) == (n : Int)) = false := by simp; omega
      have hkn : k < n := by omega
      have LEM : Hid (∀ v' w1, OwnG elI w1 v' (P ++ [i]) → Sp (.slice o k cp) (wr.alloc (.cells #[.int .i64 (i : Int)] 3)) v' w1 → ∃ ov q cv, v' = .slice ov q cv ∧ Hid (q = k + 1) ∧ Hid (OwnG elI w1 v' (P ++ [i])) ∧ Hid (NewV w v') ∧ Hid (Fr no w w1) ∧
          ∃ b off cap, w1.cell? ⟨p, 2, none⟩ = some (.slice (some ⟨b, off, none⟩) n cap) ∧ w1.cell? ⟨b, off + i, none⟩ = some (.int .i64 ((A.getD i 0 : Nat) : Int))) := by
        intro v' w1 o1 s1
        obtain ⟨nv1, f1⟩ := HV.out.step (HF.out.alloc _ _) s1
        obtain ⟨ov, cv, hvf⟩ := o1.form
        obtain ⟨vn, va, m, D, g1, g2, g3, -⟩ := HBK.out.keep f1
        obtain ⟨-, -, d2⟩ := cells3 g1
        obtain ⟨ad, cap, rfl, hcap, hmx, -, hit⟩ := g3.sl
        have hAl := hA.1
        have hx : A[i]? = some (A.getD i 0) := by rw [List.getD_eq_getElem?_getD, List.getElem?_eq_getElem (by omega)]; rfl
        obtain ⟨b, off, rfl, hc⟩ := hit i _ hx
        rw [hAl] at d2
        exact ⟨ov, _, cv, hvf, (by show _ = _; simp [hk]), o1, nv1, f1, b, off, cap, d2, hc⟩
      by_cases hz : i = 0
      · subst hz
        have HB2 : Hid (up A n i0 = (P ++ [0], true)) := by
          show _ = _
          rw [HE.out]
          obtain ⟨f, hfu⟩ : ∃ f, n - k = f + 1 := ⟨n - k - 1, by omega⟩
          rw [hfu]
          simp [up]
        go_wp2_with (first | (at_builtin; refine wpList_apdG elI_ok _ rfl rfl _ _ rfl (.slice o k cp) P rfl (HO.out.keep ((Fr.refl no wr).alloc _ _)) _ rfl [0] (srcG_one elI_ok wr 0) (by simp; omega) ?_; intro v' w1 o1 s1; obtain ⟨ov, q, cv, rfl, HQ, O1, N1, F1, b, off, cap, d2, hc⟩ := LEM.out v' w1 o1 s1; clear o1 s1) | go_in)
        go_step3
        refine h1 _ _ ⟨_, _, _, _, _, _, _, _, _, _, _, _, _, _, _, _, _, _, _, _, _, _, _, _, _, _, _, _, _, rfl, ?_, N1.out, F1.out, ?_⟩
        · rw [HB2.out]; exact O1.out
        · rw [HB2.out]
      · have hz' : ((i : Int) == 0) = false := by simp; omega
        have HB2 : Hid (up A n i0 = ((P ++ [i]) ++ (up A (n - (P ++ [i]).length) (A.getD i 0)).1, (up A (n - (P ++ [i]).length) (A.getD i 0)).2)) := by
          show _ = _
          rw [HE.out]
          obtain ⟨f, hfu⟩ : ∃ f, n - k = f + 1 := ⟨n - k - 1, by omega⟩
          have hfl : n - (P ++ [i]).length = f := by simp; omega
          rw [hfu, hfl]
          simp [up, hz]
        have HG : Hid (A.getD i 0 < n) := hA.2 i
        have hAi : (i : Int) < (n : Int) := by omega
        generalize hgd : A.getD i 0 = j at *
        go_wp2_with (first | (at_builtin; refine wpList_apdG elI_ok _ rfl rfl _ _ rfl (.slice o k cp) P rfl (HO.out.keep ((Fr.refl no wr).alloc _ _)) _ rfl [i] (srcG_one elI_ok wr i) (by simp; omega) ?_; intro v' w1 o1 s1; obtain ⟨ov, q, cv, rfl, HQ, O1, N1, F1, b, off, cap, d2, hc⟩ := LEM.out v' w1 o1 s1; clear o1 s1) | go_in)
        go_step3
        refine hj _ _ ⟨j, _, P ++ [i], _, _, _, _, _, _, _, _, _, _, _, _, _, _, _, _, _, _, _, _, _, _, _, _, _, rfl, HG.out, by simp; omega, O1.out, N1.out, F1.out, HB2.out⟩ ?_
        have e := HQ.out
        simp [lenOf]
        omega
  · rintro a' wr ⟨u0, u1, u2, u3, u6, u7, u8, u9, u10, u11, u12, u13, u14, u15, u16, u17, u18, u19, u20, u21, u22, u23, u24, u25, u26, u27, u28, v, b, rfl, ho, hv, hf, hb⟩ K hr
    have HO : Hid (OwnG elI wr v (up A n i0).1) := ho
    have HV : Hid (NewV w v) := hv
    have HF : Hid (Fr no w wr) := hf
    have HB2 : Hid (b = (up A n i0).2) := hb
    clear ho hv hf hb
    go_wp2_with fail
    go_ret2
    exact ⟨_, by rw [← HB2.out]; rfl, HO.out, HV.out, HF.out⟩
end Go.Proofs.Ytabiagheflkiaaa
