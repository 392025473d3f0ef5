/- A walk begins; what was reached. -/
import Derived.Test.YtopcbcdigllenaaG3
namespace Go.Proofs.Ytopcbcdigllenaa
open Go.ChangeShapes Go.WideShapes Go.ChangeAt Go.RowKit

def startM (n : Nat) (O : List Int) : List Nat := O.foldl (fun M a => M.set a.toNat 1) (List.replicate (n + 1) 0)

theorem startM_len (n : Nat) (O : List Int) : (startM n O).length = n + 1 := by
  unfold startM
  have : ∀ (O : List Int) (M : List Nat), (O.foldl (fun M a => M.set a.toNat 1) M).length = M.length := fun O => by
    induction O with
    | nil => exact fun M => rfl
    | cons a r ih => exact fun M => by rw [List.foldl_cons, ih, List.length_set]
  rw [this, List.length_replicate]

theorem startM_step (n : Nat) (O : List Int) (t : Nat) (x : Int) (h : O[t]? = some x) : startM n (O.take (t + 1)) = (startM n (O.take t)).set x.toNat 1 := by
  unfold startM
  rw [take_next O t x h, List.foldl_append]
  rfl

theorem objsA_in (k : Nat) (bs : List Blk) : ∀ x ∈ objsA k bs, (k : Int) + 1 ≤ x ∧ x ≤ (k : Int) + (siz bs : Int) := by
  induction bs generalizing k with
  | nil => intro x hx; simp [objsA] at hx
  | cons b r ih =>
    intro x hx
    rw [siz_cons]
    cases b with
    | free j =>
      rw [objsA] at hx
      have := ih _ x hx
      omega
    | obj c ws =>
      rw [objsA] at hx
      have hp := (Blk.obj c ws).len_pos
      rcases List.mem_cons.1 hx with hx | hx
      · omega
      · have := ih _ x hx
        omega

/-- Those that are seen. -/
def seenL (M : List Nat) (O : List Int) : List Int := O.filter (fun a => M[a.toNat]? == some 2)

theorem seenL_step (M : List Nat) (O : List Int) (t : Nat) (x : Int) (h : O[t]? = some x) : seenL M (O.take (t + 1)) = seenL M (O.take t) ++ (if M[x.toNat]? == some 2 then [x] else []) := by
  unfold seenL
  rw [take_next O t x h, List.filter_append]
  congr 1
  simp only [List.filter_cons, List.filter_nil]

set_option maxHeartbeats 4000000 in
set_option maxRecDepth 100000 in
theorem reached_any (w : World) (m : Nat) (vO vM vS : Value) (O : List Int) (M : List Nat) (S : List Int) (h : Mk w m vO vM vS O M S) (hO : O.length ≤ 4000) (hin : ∀ x ∈ O, 0 ≤ x ∧ x < (M.length : Int)) :
    Calls Try.prog 52 #[.pointer (some ⟨m, 0, none⟩)] w fun e w' => ∃ v, e = .returned v ∧ OwnG elI w' v (seenL M O) ∧ NewV w v ∧ Fr no w w' := by
  obtain ⟨oO, cO, hvO⟩ := h.o.form
  obtain ⟨oM, cM, hvM⟩ := h.mm.form
  subst hvO hvM
  have c0 := h.cells.1
  have HM : Hid (Mk w m (.slice oO O.length cO) (.slice oM M.length cM) vS O M S) := h
  clear h
  generalize hln : O.length = n at *
  generalize hml : M.length = ml at *
  go_enter Try.func52, Try.ntmps52
  go_wp2_with fail
  go_loopw [3, 11] (fun lv i wr => ∃ t : Nat, i = .int .i64 (t : Int) ∧ t ≤ n ∧ OwnG elI wr lv (seenL M (O.take t)) ∧ NewV w lv ∧ Fr no w wr) (fun _ i _ => n - (intOf i).toNat)
  case atStart => exact ⟨0, rfl, Nat.zero_le _, OwnG.nil _ _, NewV.nil _, Fr.refl _ _⟩
  case round =>
    clear c0
    obtain ⟨t, rfl, htn, how, hnv, hfr⟩ := hrel
    by_cases hti : t < n
    · obtain ⟨x, hx⟩ : ∃ x, O[t]? = some x := ⟨_, List.getElem?_eq_getElem (by omega)⟩
      have hst := seenL_step M O t x hx
      have hxi := hin x (List.mem_of_getElem? hx)
      have MK := HM.out.keep hfr
      obtain ⟨b0, o0, hov, hcx⟩ := (MK.o.rd elI_ok).at1 (u := .int .i64 x) rfl rfl hx
      obtain ⟨i, rfl⟩ : ∃ i : Nat, x = (i : Int) := ⟨x.toNat, by omega⟩
      obtain ⟨y, hy⟩ : ∃ y, M[i]? = some y := ⟨_, List.getElem?_eq_getElem (by omega)⟩
      obtain ⟨b1, o1, hov1, hcy⟩ := (MK.mm.rd elY_ok).at1 (u := .int .u8 (y : Int)) rfl rfl hy
      have c1 := MK.cells.2.1
      subst hov hov1
      have hti' : (t : Int) < (n : Int) := by omega
      have hil' : (i : Int) < (ml : Int) := by omega
      have hsl : (seenL M (O.take t)).length ≤ 4000 := by
        have := List.length_filter_le (fun a : Int => M[a.toNat]? == some 2) (O.take t)
        unfold seenL
        rw [List.length_take] at this
        omega
      have HX : Hid (OwnG elI wr u3 (seenL M (O.take t)) ∧ NewV w u3 ∧ Fr no w wr) := ⟨how, hnv, hfr⟩
      have HST : Hid (seenL M (O.take (t + 1)) = seenL M (O.take t) ++ (if M[i]? == some 2 then [(i : Int)] else [])) := hst
      clear hst hx MK how hnv hfr hxi
      by_cases hy2 : y = 2
      · subst hy2
        have hcy2 : wr.cell? ⟨b1, o1 + i, none⟩ = some (.int .u8 2) := hcy
        have HO1 : Hid (OwnG elI (wr.alloc (.cells (elI.f (i : Int)).toArray elI.e)) u3 (seenL M (O.take t))) := HX.out.1.keep ((Fr.refl no wr).alloc _ _)
        have HFR : Hid (Fr no w (wr.alloc (.cells (elI.f (i : Int)).toArray elI.e))) := HX.out.2.2.alloc _ _
        have HS2 : Hid (seenL M (O.take (t + 1)) = seenL M (O.take t) ++ [(i : Int)]) := by
          rw [Hid, HST.out, hy]
          rfl
        clear hcy
        go_wp2_with (at_builtin; refine wpList_apdG elI_ok _ rfl rfl _ _ rfl u3 (seenL M (O.take t)) rfl HO1.out _ rfl [(i : Int)] (srcG_one elI_ok wr (i : Int)) (by simp; omega) ?_; intro v' w3 o3 s3; have H3 : Hid (OwnG elI w3 v' (seenL M (O.take t) ++ [(i : Int)]) ∧ NewV w v' ∧ Fr no w w3) := ⟨o3, HX.out.2.1.step HFR.out s3⟩; clear o3 s3)
        go_roundw
        case rel => exact ⟨t + 1, by go_num, by omega, by rw [HS2.out]; exact H3.out.1, H3.out.2⟩
        case measure => simp [intOf]; omega
      · have hd2 : ((y : Int) == 2) = false := by simp; omega
        have HS2 : Hid (seenL M (O.take (t + 1)) = seenL M (O.take t)) := by
          rw [Hid, HST.out, hy, if_neg (by simp [hy2]), List.append_nil]
        go_wp2_with fail
        go_roundw
        case rel => exact ⟨t + 1, by go_num, by omega, by rw [HS2.out]; exact HX.out.1, HX.out.2⟩
        case measure => simp [intOf]; omega
    · obtain rfl : t = n := by omega
      have HZ : Hid (OwnG elI wr u3 (seenL M O) ∧ NewV w u3 ∧ Fr no w wr) := by
        rw [List.take_of_length_le (by omega)] at how
        exact ⟨how, hnv, hfr⟩
      clear how hnv hfr
      go_wp2_with fail
      go_ret
      exact ⟨_, rfl, HZ.out⟩
end Go.Proofs.Ytopcbcdigllenaa
