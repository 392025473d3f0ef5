/- What is an object's address, and new, is marked and put on the stack. -/
import Derived.Test.YtopcbcdigllenaaG2
import Derived.Deep.CutBlock
import Derived.Deep.DeepCutAuto
namespace Go.Proofs.Ytopcbcdigllenaa
open Go.ChangeShapes Go.WideShapes Go.ChangeAt Go.RowKit

/-- Whether an address is an object's, and unseen. -/
def hitM (M : List Nat) (a : Int) : Bool := decide (0 ≤ a) && (M[a.toNat]? == some 1)

def stR (x : List Nat × List Int) (a : Int) : List Nat × List Int := if hitM x.1 a = true then (x.1.set a.toNat 2, x.2 ++ [a]) else x

def reachP (M : List Nat) (S : List Int) (L : List Int) : List Nat × List Int := L.foldl stR (M, S)

theorem reachP_nil (M : List Nat) (S : List Int) : reachP M S [] = (M, S) := rfl

theorem reachP_step (M : List Nat) (S L : List Int) (t : Nat) (x : Int) (h : L[t]? = some x) : reachP M S (L.take (t + 1)) = stR (reachP M S (L.take t)) x := by
  unfold reachP
  rw [take_next L t x h, List.foldl_append]
  rfl

theorem stR_len (x : List Nat × List Int) (a : Int) : (stR x a).1.length = x.1.length ∧ (stR x a).1.count 1 + (stR x a).2.length = x.1.count 1 + x.2.length := by
  unfold stR
  by_cases h : hitM x.1 a = true
  · rw [if_pos h]
    refine ⟨by simp, ?_⟩
    unfold hitM at h
    simp only [Bool.and_eq_true, decide_eq_true_eq, beq_iff_eq] at h
    obtain ⟨hl, hx⟩ := List.getElem?_eq_some_iff.1 h.2
    have hc := List.count_set (a := 2) (b := (1 : Nat)) (l := x.1) (i := a.toNat) hl
    have hm : 0 < x.1.count 1 := List.count_pos_iff.2 (by rw [← hx]; exact List.getElem_mem hl)
    simp only [hx] at hc
    simp at hc
    simp only [List.length_append, List.length_singleton]
    omega
  · rw [if_neg h]
    exact ⟨rfl, rfl⟩

theorem reachP_len (M : List Nat) (S L : List Int) : (reachP M S L).1.length = M.length ∧ (reachP M S L).1.count 1 + (reachP M S L).2.length = M.count 1 + S.length := by
  unfold reachP
  induction L generalizing M S with
  | nil => exact ⟨rfl, rfl⟩
  | cons a r ih =>
    obtain ⟨h1, h2⟩ := stR_len (M, S) a
    obtain ⟨h3, h4⟩ := ih (stR (M, S) a).1 (stR (M, S) a).2
    exact ⟨h3.trans h1, h4.trans h2⟩

theorem Mk.mark {w : World} {m : Nat} {vO vS : Value} {O : List Int} {M : List Nat} {S : List Int} {b o n c : Nat} (h : Mk w m vO (.slice (some ⟨b, o, none⟩) n c) vS O M S) (i x : Nat) :
    Mk (w.setCell ⟨b, o + i, none⟩ (.int .u8 (x : Int))) m vO (.slice (some ⟨b, o, none⟩) n c) vS O (M.set i x) S ∧ Fr (mB m (.slice (some ⟨b, o, none⟩) n c) vS) w (w.setCell ⟨b, o + i, none⟩ (.int .u8 (x : Int))) := by
  have f : Fr (fun k => k = b) w (w.setCell ⟨b, o + i, none⟩ (.int .u8 (x : Int))) := Fr.one ⟨b, o + i, none⟩ _
  have e : (Value.slice (some ⟨b, o, none⟩) n c).ownBlock = some b := rfl
  refine ⟨⟨f.heap h.hd (fun em => own_not h.mm h.hd (by decide) (by rw [e, em])), h.o.kept f (fun k hk ek => own_apart h.o h.mm (by decide) k hk (by rw [e, ek])), h.mm.put1 elY_ok rfl i rfl, h.s.kept f (fun k hk ek => own_apart h.s h.mm (by decide) k hk (by rw [e, ek])), h.ap⟩, f.mono (fun k _ ek => .inr (.inl (by rw [e, ek])))⟩

theorem Mk.push {w w' : World} {m : Nat} {vO vM vS v' : Value} {O : List Int} {M : List Nat} {S S' : List Int} (h : Mk w m vO vM vS O M S) (o : OwnG elI w' v' S') (s : Sp vS w v' w') :
    Mk (w'.setCell ⟨m, 2, none⟩ v') m vO vM v' O M S' ∧ Fr (mB m vM vS) w (w'.setCell ⟨m, 2, none⟩ v') := by
  have f : Fr (fun k => k = m) w' (w'.setCell ⟨m, 2, none⟩ v') := Fr.one ⟨m, 2, none⟩ _
  have hms : vS.ownBlock ≠ some m := own_not h.s h.hd (by decide)
  have hd' : w'.heap[m]? = some (.cells #[vO, vM, vS] 88 (0, 0)) := s.1.heap h.hd hms
  have o1 : OwnG elI w' vO O := h.o.kept s.1 (fun k hk => h.ap k hk)
  have m1 : OwnG elY w' vM M := h.mm.kept s.1 (fun k hk => own_apart h.mm h.s (by decide) k hk)
  refine ⟨⟨setCell_heap hd' _, o1.kept f (fun k hk e => own_not o1 hd' (by decide) (by rw [hk, e])), m1.kept f (fun k hk e => own_not m1 hd' (by decide) (by rw [hk, e])), o.kept f (fun k hk e => own_not o hd' (by decide) (by rw [hk, e])), fun k hk e => ?_⟩, ?_⟩
  · exact h.ap k hk (s.2 k (h.o.lt hk) e)
  · exact s.1.trans f (fun k _ e => .inr (.inr e)) (fun k _ e => .inl e)

theorem Mk.pushed {w w' : World} {m : Nat} {vO vM vS v' : Value} {O : List Int} {M : List Nat} {S S' : List Int} (h : Mk w m vO vM vS O M S) (o : OwnG elI w' v' S') (s : Sp vS w v' w') : ∃ o' c', v' = .slice o' S'.length c' ∧ w'.frozen? ⟨m, 2, none⟩ = false ∧ w'.cell? ⟨m, 2, none⟩ = some vS := by
  obtain ⟨o', c', e⟩ := o.form
  have := s.1.heap h.hd (own_not h.s h.hd (by decide))
  exact ⟨o', c', e, by simp [World.frozen?, this], by simp [World.cell?, this]⟩

set_option maxHeartbeats 4000000 in
set_option maxRecDepth 100000 in
theorem reach_any (w : World) (m : Nat) (vO vM vS v : Value) (O : List Int) (M : List Nat) (S L : List Int) (h : Mk w m vO vM vS O M S) (hv : OwnG elI w v L) (hav : ∀ k, v.ownBlock = some k → vS.ownBlock ≠ some k)
    (hL : L.length ≤ 1000000) (hS : M.count 1 + S.length ≤ 5000) :
    Calls Try.prog 50 #[.pointer (some ⟨m, 0, none⟩), v] w fun e w' => e = .returned (.tuple #[]) ∧ ∃ vS', Mk w' m vO vM vS' O (reachP M S L).1 (reachP M S L).2 ∧ Fr (mB m vM vS) w w' ∧ ∀ k, k < w.heap.size → vS'.ownBlock = some k → vS.ownBlock = some k := by
  have HV : Hid (∀ w', Fr (mB m vM vS) w w' → OwnG elI w' v L) := fun w' f => hv.kept f (fun k hk e => by
    rcases e with e | e | e
    · exact own_not hv h.hd (by decide) (by rw [hk, e])
    · exact own_apart hv h.mm (by decide) k hk e
    · exact hav k hk e)
  obtain ⟨ov, cv, hvf⟩ := hv.form
  subst hvf
  have H0 : Hid (Mk w m vO vM vS O M S) := h
  clear h hv hav
  generalize hln : L.length = n at *
  go_enter Try.func50, Try.ntmps50
  go_wp2_with fail
  go_loopw [8] (fun i wr => ∃ (t : Nat) (vT : Value), i = .int .i64 (t : Int) ∧ t ≤ n ∧ Mk wr m vO vM vT O (reachP M S (L.take t)).1 (reachP M S (L.take t)).2 ∧ Fr (mB m vM vS) w wr ∧ ∀ k, k < w.heap.size → vT.ownBlock = some k → vS.ownBlock = some k) (fun i _ => n - (intOf i).toNat)
  case atStart => exact ⟨0, vS, rfl, Nat.zero_le _, H0.out, Fr.refl _ _, fun _ _ e => e⟩
  case round =>
    clear H0
    obtain ⟨t, vT, rfl, htn, hmk, hfr, hsp⟩ := hrel
    by_cases hti : t < n
    · obtain ⟨x, hx⟩ : ∃ x, L[t]? = some x := ⟨_, List.getElem?_eq_getElem (by omega)⟩
      have hst := reachP_step M S L t x hx
      obtain ⟨hl1, hl2⟩ := reachP_len M S (L.take t)
      obtain ⟨b0, o0, hov, hcx⟩ := ((HV.out wr hfr).rd elI_ok).at1 (u := .int .i64 x) rfl rfl hx
      subst hov
      have hti' : (t : Int) < (n : Int) := by omega
      have HX : Hid (Fr (mB m vM vS) w wr ∧ ∀ k, k < w.heap.size → vT.ownBlock = some k → vS.ownBlock = some k) := ⟨hfr, hsp⟩
      generalize reachP M S (L.take t) = R at *
      obtain ⟨M1, S1⟩ := R
      simp only at hl1 hl2 hmk
      obtain ⟨c0, c1, c2⟩ := hmk.cells
      have tw := hmk.thaw 2
      obtain ⟨oM, cM, hvM⟩ := hmk.mm.form
      obtain ⟨oT, cT, hvT⟩ := hmk.s.form
      have HM : Hid (Mk wr m vO vM vT O M1 S1) := hmk
      have SKIP : hitM M1 x = false → Hid (∃ vT, Mk wr m vO vM vT O (reachP M S (L.take (t + 1))).1 (reachP M S (L.take (t + 1))).2 ∧ Fr (mB m vM vS) w wr ∧ ∀ k, k < w.heap.size → vT.ownBlock = some k → vS.ownBlock = some k) := fun hh => by
        rw [Hid, hst]
        unfold stR
        rw [if_neg (by rw [hh]; decide)]
        exact ⟨vT, hmk, HX.out⟩
      have HST : Hid (reachP M S (L.take (t + 1)) = stR (M1, S1) x) := hst
      clear hst hx hfr hsp
      by_cases hx0 : x < 0
      · have hd0 : decide (x < 0) = true := decide_eq_true hx0
        have HS := SKIP (by unfold hitM; simp; omega)
        clear SKIP hmk c0 tw
        go_wp2_with fail
        go_roundw
        case rel => exact ⟨t + 1, HS.out.choose, by go_num, by omega, HS.out.choose_spec⟩
        case measure => simp [intOf]; omega
      · have hd0 : decide (x < 0) = false := decide_eq_false hx0
        subst hvM
        by_cases hx1 : (M1.length : Int) ≤ x
        · have hd1 : decide ((M1.length : Int) ≤ x) = true := decide_eq_true hx1
          have HS := SKIP (by
            unfold hitM
            rw [List.getElem?_eq_none (by omega)]
            simp)
          clear SKIP hmk c0 tw
          generalize M1.length = ml at *
          go_wp2_with fail
          go_roundw
          case rel => exact ⟨t + 1, HS.out.choose, by go_num, by omega, HS.out.choose_spec⟩
          case measure => simp [intOf]; omega
        · have hd1 : decide ((M1.length : Int) ≤ x) = false := decide_eq_false hx1
          obtain ⟨i, rfl⟩ : ∃ i : Nat, x = (i : Int) := ⟨x.toNat, by omega⟩
          have hil : i < M1.length := by omega
          obtain ⟨y, hy⟩ : ∃ y, M1[i]? = some y := ⟨_, List.getElem?_eq_getElem hil⟩
          obtain ⟨bM, fM, hoM, hcy⟩ := (hmk.mm.rd elY_ok).at1 (u := .int .u8 (y : Int)) rfl rfl hy
          subst hoM
          have hil' : (i : Int) < (M1.length : Int) := by omega
          by_cases hy1 : y = 1
          · subst hy1
            have tM : wr.frozen? ⟨bM, fM + i, none⟩ = false := by
              obtain ⟨cc, hcc⟩ := hmk.mm.tag (k := bM) rfl
              simp [World.frozen?, hcc]
            have hcy1 : wr.cell? ⟨bM, fM + i, none⟩ = some (.int .u8 1) := hcy
            have MK4 : Mk (wr.setCell ⟨bM, fM + i, none⟩ (.int .u8 2)) m vO (.slice (some ⟨bM, fM, none⟩) M1.length cM) vT O (M1.set i 2) S1 ∧ Fr (mB m (.slice (some ⟨bM, fM, none⟩) M1.length cM) vT) wr (wr.setCell ⟨bM, fM + i, none⟩ (.int .u8 2)) := hmk.mark i 2
            have H4 : Hid (Mk (wr.setCell ⟨bM, fM + i, none⟩ (.int .u8 2)) m vO (.slice (some ⟨bM, fM, none⟩) M1.length cM) vT O (M1.set i 2) S1 ∧ Fr (mB m (.slice (some ⟨bM, fM, none⟩) M1.length cM) vT) wr (wr.setCell ⟨bM, fM + i, none⟩ (.int .u8 2))) := MK4
            have c24 : (wr.setCell ⟨bM, fM + i, none⟩ (.int .u8 2)).cell? ⟨m, 2, none⟩ = some vT := MK4.1.cells.2.2
            have tw4 : (wr.setCell ⟨bM, fM + i, none⟩ (.int .u8 2)).frozen? ⟨m, 2, none⟩ = false := MK4.1.thaw 2
            have HIT : Hid (reachP M S (L.take (t + 1)) = (M1.set i 2, S1 ++ [(i : Int)])) := by
              rw [Hid, HST.out]
              unfold stR
              rw [if_pos (by unfold hitM; simp [hy])]
              rfl
            have hsl : S1.length ≤ 5000 := by omega
            clear SKIP hmk c0 tw MK4 HM HST hcy hvT hl1 hl2
            generalize M1.length = ml at *
            go_upto_region 5 with fail
            revert H4 c24 tw4
            generalize (wr.setCell ⟨bM, fM + i, none⟩ (.int .u8 2)) = w4
            intro c24 tw4 H4
            have HO1 : Hid (OwnG elI (w4.alloc (.cells (elI.f (i : Int)).toArray elI.e)) vT S1) := H4.out.1.s.keep ((Fr.refl no w4).alloc _ _)
            have M5 : Mk (w4.alloc (.cells (elI.f (i : Int)).toArray elI.e)) m vO (.slice (some ⟨bM, fM, none⟩) ml cM) vT O (M1.set i 2) S1 := H4.out.1.keep ((Fr.refl no w4).alloc _ _)
            have H5 : Hid (Mk (w4.alloc (.cells (elI.f (i : Int)).toArray elI.e)) m vO (.slice (some ⟨bM, fM, none⟩) ml cM) vT O (M1.set i 2) S1) := M5
            clear M5 c2 c1
            go_wp2_with (at_builtin; refine wpList_apdG elI_ok _ rfl rfl _ _ rfl vT S1 rfl HO1.out _ rfl [(i : Int)] (srcG_one elI_ok w4 (i : Int)) (by simp; omega) ?_; intro v' w6 o6 s6; obtain ⟨o', c', hv', q1, q2⟩ := H5.out.pushed o6 s6; subst hv'; have O6 : Hid (OwnG elI w6 (.slice o' (S1 ++ [(i : Int)]).length c') (S1 ++ [(i : Int)]) ∧ Sp vT (w4.alloc (.cells (elI.f (i : Int)).toArray elI.e)) (.slice o' (S1 ++ [(i : Int)]).length c') w6) := ⟨o6, s6⟩; clear o6 s6; generalize (S1 ++ [(i : Int)]).length = sl at *)
            obtain ⟨m7, f7⟩ := H5.out.push O6.out.1 O6.out.2
            have H7 : Hid (Mk (w6.setCell ⟨m, 2, none⟩ (.slice o' sl c')) m vO (.slice (some ⟨bM, fM, none⟩) ml cM) (.slice o' sl c') O (M1.set i 2) (S1 ++ [(i : Int)]) ∧ Fr (mB m (.slice (some ⟨bM, fM, none⟩) ml cM) vS) w (w6.setCell ⟨m, 2, none⟩ (.slice o' sl c')) ∧ ∀ k, k < w.heap.size → (Value.slice o' sl c').ownBlock = some k → vS.ownBlock = some k) := by
              have fa : Fr (mB m (.slice (some ⟨bM, fM, none⟩) ml cM) vT) wr (w6.setCell ⟨m, 2, none⟩ (.slice o' sl c')) := H4.out.2.trans ((((Fr.refl no w4).alloc (elI.f (i : Int)).toArray elI.e)).trans f7 (fun _ _ x => x.elim) (fun _ _ x => x)) (fun _ _ x => x) (fun _ _ x => x)
              refine ⟨m7, HX.out.1.trans fa (fun _ _ x => x) (fun k hk x => ?_), fun k hk e => ?_⟩
              · rcases x with x | x | x
                · exact .inl x
                · exact .inr (.inl x)
                · exact .inr (.inr (HX.out.2 k hk x))
              · refine HX.out.2 k hk (O6.out.2.2 k ?_ e)
                have := HX.out.1.size
                have := H4.out.2.size
                have := ((Fr.refl no w4).alloc (elI.f (i : Int)).toArray elI.e).size
                omega
            clear m7 f7
            go_roundw
            case rel => exact ⟨t + 1, _, by go_num, by omega, by rw [HIT.out]; exact H7.out.1, H7.out.2⟩
            case measure => simp [intOf]; omega
          · have hd2 : ((y : Int) != 1) = true := by simp; omega
            have HS := SKIP (by
              unfold hitM
              simp [hy, hy1])
            clear SKIP hmk c0 tw
            generalize M1.length = ml at *
            go_wp2_with fail
            go_roundw
            case rel => exact ⟨t + 1, HS.out.choose, by go_num, by omega, HS.out.choose_spec⟩
            case measure => simp [intOf]; omega
    · obtain rfl : t = n := by omega
      have HZ : Hid (∃ vS', Mk wr m vO vM vS' O (reachP M S L).1 (reachP M S L).2 ∧ Fr (mB m vM vS) w wr ∧ ∀ k, k < w.heap.size → vS'.ownBlock = some k → vS.ownBlock = some k) := by
        have e : L.take t = L := List.take_of_length_le (by omega)
        rw [e] at hmk
        exact ⟨vT, hmk, hfr, hsp⟩
      clear hmk hfr hsp
      go_wp2_with fail
      go_end0
      exact ⟨rfl, HZ.out⟩
end Go.Proofs.Ytopcbcdigllenaa
