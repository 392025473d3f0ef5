/- Collect: with whatever function tells the references. -/
import Derived.Test.YtopcbcdigllenaaG8
namespace Go.Proofs.Ytopcbcdigllenaa
open Go.ChangeShapes Go.WideShapes Go.ChangeAt Go.RowKit

/-- The first of a row that is one's own, and the row behind it. -/
theorem first_own {w : World} {v : Value} {x : Int} {l : List Int} (h : OwnG elI w v (x :: l)) : ∃ b o c, v = .slice (some ⟨b, o, none⟩) (l.length + 1) c ∧ w.cell? ⟨b, o, none⟩ = some (.int .i64 x) ∧ 1 ≤ c ∧
    OwnG elI w (.slice (if c = 1 then some ⟨b, o, none⟩ else some ⟨b, o + 1, none⟩) l.length (c - 1)) l ∧ v.ownBlock = some b ∧ (Value.slice (if c = 1 then some ⟨b, o, none⟩ else some ⟨b, o + 1, none⟩) l.length (c - 1)).ownBlock = some b := by
  have h' := h
  rcases h with ⟨-, e⟩ | ⟨b, o, c, cur, rfl, h1, h2, h3, h4, h5⟩
  · simp at e
  have hcx := h'.cells 0 (.int .i64 x) rfl
  simp only [List.length_cons] at h2 h5
  refine ⟨b, o, c, rfl, hcx, by omega, ?_, rfl, ?_⟩
  · by_cases hc : c = 1
    · obtain rfl : l = [] := List.eq_nil_of_length_eq_zero (by omega)
      rw [if_pos hc]
      exact .inr ⟨b, o, c - 1, cur, rfl, h1, by simp, by omega, by simp only [elI] at *; omega, by simp [cg]⟩
    · rw [if_neg hc]
      refine .inr ⟨b, o + 1, c - 1, cur, rfl, h1, by omega, by omega, by simp only [elI] at *; omega, ?_⟩
      have e1 : cg elI (x :: l) = .int .i64 x :: cg elI l := rfl
      rw [e1] at h5
      have e2 : (cur.toList.drop o).take ((l.length + 1) * elI.n) = .int .i64 x :: cg elI l := h5
      have e3 := congrArg (List.drop 1) e2
      rw [List.drop_take, List.drop_drop] at e3
      simpa [elI] using e3
  · by_cases hc : c = 1
    · rw [if_pos hc]
      rfl
    · rw [if_neg hc]
      rfl

set_option maxHeartbeats 4000000 in
set_option maxRecDepth 100000 in
theorem collect_any (w : World) (p g : Nat) (bs : List Blk) (h : HP w p g bs) (rv : Value) (R : List Int) (hrv : OwnG elI w rv R) (hR : R.length ≤ 1000000)
    (fn : FuncId) (cap : Array Value) (E : Int → List Int) (J : List Int → (Nat → Prop) → World → Prop) (N : Nat) (RF : Refs fn cap E J N) (j0 : List Int) (B0 : Nat → Prop) (hj : J j0 B0 w) (hN : j0.length + (objsA 0 bs).length ≤ N)
    (hBp : ¬ B0 p) (hBg : ¬ B0 g) :
    Calls Try.prog 28 #[.pointer (some ⟨p, 0, none⟩), rv, .func (.func fn) #[] cap] w fun e w' => ∃ js B M, e = .returned (.int .i64 (((objsA 0 bs).length - (seenL M (objsA 0 bs)).length : Nat) : Int)) ∧ HP w' p g (relP M bs (objsA 0 bs)) ∧ J (j0 ++ js) B w' ∧ Fr (fun k => k = g ∨ B0 k) w w' ∧ (∀ k, k < w.heap.size → B k → B0 k) ∧
      (∀ a ∈ objsA 0 bs, M[a.toNat]? = some 2 ↔ Reach E (objsA 0 bs) R a) ∧ js.length = (seenL M (objsA 0 bs)).length := by
  have MK := mark_any w p g bs h rv R hrv hR fn cap E J N RF j0 B0 hj hN
  have hfl := h.len
  have hol : (objsA 0 bs).length ≤ (flat bs).length := by
    rw [objsA_eq, List.length_map]
    have := (freesA_len 0 bs).2
    have e : siz bs = (flat bs).length := rfl
    omega
  have hri := objsA_rise 0 bs
  have hin : ∀ a ∈ objsA 0 bs, a ≤ 4000 := fun a ha => by
    have := objsA_in 0 bs a ha
    have e : siz bs = (flat bs).length := rfl
    omega
  have plt : p < w.heap.size := lt_of_heap h.hd
  have glt : g < w.heap.size := lt_of_heap h.row
  have HP0 : Hid (HP w p g bs) := h
  have HRF : Hid (Refs fn cap E J N) := RF
  have HAA : Hid (∀ w1, HP w1 p g bs → Calls Try.prog 27 #[.pointer (some ⟨p, 0, none⟩)] w1 fun e w' => ∃ v, e = .returned v ∧ OwnG elI w' v (objsA 0 bs) ∧ NewV w1 v ∧ Fr no w1 w') := fun w1 h1 => all_any w1 p g bs h1
  clear h RF hj hrv
  generalize hOO : objsA 0 bs = O at *
  clear hOO
  go_enter Try.func28, Try.ntmps28
  go_wp2_with fail
  refine MK.mono ?_
  rintro e w1 ⟨kv, js, B, M, rfl, ok1, nk1, J1, f1, bb1, hrc, hjl⟩
  have hp1 : HP w1 p g bs := HP0.out.kept f1 hBp hBg
  have AA := HAA.out w1 hp1
  have H1 : Hid (HP w1 p g bs ∧ OwnG elI w1 kv (seenL M O) ∧ NewV w kv ∧ J (j0 ++ js) B w1 ∧ Fr B0 w w1 ∧ (∀ k, k < w.heap.size → B k → B0 k) ∧ (∀ a ∈ O, M[a.toNat]? = some 2 ↔ Reach E O R a) ∧ js.length = (seenL M O).length) := ⟨hp1, ok1, nk1, J1, f1, bb1, hrc, hjl⟩
  clear hp1 ok1 nk1 J1 f1 bb1 hrc hjl MK HAA
  go_wp2_with fail
  refine AA.mono ?_
  rintro e w2 ⟨av, rfl, oa, na, f2⟩
  obtain ⟨hp1, ok1, nk1, J1, f1, bb1, hrc, hjl⟩ := H1.out
  obtain ⟨aO, cO, hav⟩ := oa.form
  subst hav
  generalize hln : O.length = n at *
  have H2 : Hid (HP w2 p g bs ∧ OwnG elI w2 kv (seenL M O) ∧ NewV w kv ∧ OwnG elI w2 (.slice aO n cO) O ∧ NewV w (.slice aO n cO) ∧ J (j0 ++ js) B w2 ∧ Fr B0 w w2) := ⟨hp1.keep f2, ok1.keep f2, nk1, oa, fun k hk => by have := na k hk; have := f1.size; omega, HRF.out.keep w1 w2 _ B no J1 f2 (fun _ _ f => f), f1.trans f2 (fun _ _ x => x) (fun _ _ f => f.elim)⟩
  have HC : Hid ((∀ k, k < w.heap.size → B k → B0 k) ∧ (∀ a ∈ O, M[a.toNat]? = some 2 ↔ Reach E O R a) ∧ js.length = (seenL M O).length) := ⟨bb1, hrc, hjl⟩
  have HBg : Hid (¬ B g) := fun hb => hBg (bb1 g glt hb)
  clear hp1 ok1 nk1 J1 f1 bb1 hrc hjl oa na f2 AA H1
  go_wp2_with fail
  go_loopw [7, 8, 18] (fun kv cv i wr => ∃ t c : Nat, i = .int .i64 (t : Int) ∧ t ≤ n ∧ cv = .int .i64 (c : Int) ∧ c + (seenL M (O.take t)).length = t ∧ HP wr p g (relP M bs (O.take t)) ∧ OwnG elI wr kv (seenL M (O.drop t)) ∧ NewV w kv ∧ OwnG elI wr (.slice aO n cO) O ∧ J (j0 ++ js) B wr ∧ Fr (fun k => k = g ∨ B0 k) w wr) (fun _ _ i _ => n - (intOf i).toNat)
  case atStart =>
    obtain ⟨z1, z2, z3, z4, z5, z6, z7⟩ := H2.out
    exact ⟨0, 0, rfl, Nat.zero_le _, rfl, rfl, z1, z2, z3, z4, z6, z7.mono (fun _ _ x => .inr x)⟩
  case round =>
    have HN5 : Hid (NewV w (.slice aO n cO)) := H2.out.2.2.2.2.1
    clear H2
    obtain ⟨t, c, rfl, htn, rfl, hct, hp, ok, nk, oa, hJ, hfr⟩ := hrel
    by_cases hti : t < n
    · obtain ⟨x, hx⟩ : ∃ x, O[t]? = some x := ⟨_, List.getElem?_eq_getElem (by omega)⟩
      have hst := relP_step M bs O t x hx
      have hss := seenL_step M O t x hx
      have hsd := seen_drop M O t x hx
      have hsf := seen_first M O hri t x hx
      have hxb := hin x (List.mem_of_getElem? hx)
      obtain ⟨b0, o0, hov, hcx⟩ := (oa.rd elI_ok).at1 (u := .int .i64 x) rfl rfl hx
      subst hov
      have hti' : (t : Int) < (n : Int) := by omega
      by_cases hs : seenB M x = true
      · rw [if_pos hs] at hst hsd
        rw [List.singleton_append] at hsd
        have hs' : (M[x.toNat]? == some 2) = true := hs
        rw [if_pos hs'] at hss
        rw [hsd] at ok
        obtain ⟨kb, ko, kc, hkv, hk0, hk1, osv, obk, obv⟩ := first_own ok
        subst hkv
        have HX : Hid (c + (seenL M (O.take (t + 1))).length = t + 1 ∧ HP wr p g (relP M bs (O.take (t + 1))) ∧ OwnG elI wr (.slice (if kc = 1 then some ⟨kb, ko, none⟩ else some ⟨kb, ko + 1, none⟩) (seenL M (O.drop (t + 1))).length (kc - 1)) (seenL M (O.drop (t + 1))) ∧ NewV w (.slice (if kc = 1 then some ⟨kb, ko, none⟩ else some ⟨kb, ko + 1, none⟩) (seenL M (O.drop (t + 1))).length (kc - 1)) ∧ OwnG elI wr (.slice (some ⟨b0, o0, none⟩) n cO) O ∧ J (j0 ++ js) B wr ∧ Fr (fun k => k = g ∨ B0 k) w wr) := by
          refine ⟨by rw [hss]; simp; omega, by rw [hst]; exact hp, osv, fun k hk => nk k (obk.trans (obv.symm.trans hk)), oa, hJ, hfr⟩
        clear hst hss hsd hsf hx hp ok nk oa hJ hfr osv obv obk hct
        have hkl : (0 : Int) < ((seenL M (O.drop (t + 1))).length : Int) + 1 := by omega
        generalize (seenL M (O.drop (t + 1))).length = kl at *
        go_wp2_with fail
        go_roundw
        case rel => exact ⟨t + 1, c, by go_num, by omega, rfl, HX.out⟩
        case measure => simp [intOf]; omega
      · rw [if_neg hs] at hst hsd
        have hs' : ¬ (M[x.toNat]? == some 2) = true := hs
        rw [if_neg hs', List.append_nil] at hss
        rw [List.nil_append] at hsd
        have RL := release_any wr p g _ hp x (by omega)
        rw [← hst] at RL
        have HX : Hid (c + 1 + (seenL M (O.take (t + 1))).length = t + 1 ∧ OwnG elI wr u7 (seenL M (O.drop (t + 1))) ∧ NewV w u7 ∧ OwnG elI wr (.slice (some ⟨b0, o0, none⟩) n cO) O ∧ J (j0 ++ js) B wr ∧ Fr (fun k => k = g ∨ B0 k) w wr ∧ HP wr p g (relP M bs (O.take t))) := by
          rw [hsd] at ok
          exact ⟨by rw [hss]; omega, ok, nk, oa, hJ, hfr, hp⟩
        have FIN : Hid (∀ w', HP w' p g (relP M bs (O.take (t + 1))) → Fr (fun k => k = g) wr w' → OwnG elI w' u7 (seenL M (O.drop (t + 1))) ∧ OwnG elI w' (.slice (some ⟨b0, o0, none⟩) n cO) O ∧ J (j0 ++ js) B w' ∧ Fr (fun k => k = g ∨ B0 k) w w') := fun w' h' f' => by
          obtain ⟨-, y1, y2, y3, y4, y5, y6⟩ := HX.out
          refine ⟨y1.kept f' (fun k hk e => own_not y1 y6.row (by decide) (by rw [hk, e])), y3.kept f' (fun k hk e => own_not y3 y6.row (by decide) (by rw [hk, e])), HRF.out.keep wr w' _ B (fun k => k = g) y4 f' (fun k hb e => HBg.out (by rw [← e]; exact hb)), y5.trans f' (fun _ _ x => x) (fun _ _ x => .inl x)⟩
        have hcb : (c : Int) ≤ 4000 := by omega
        rw [hsd] at ok
        cases hk : seenL M (O.drop (t + 1)) with
        | nil =>
          rw [hk] at ok
          obtain ⟨kb, kc, hkv⟩ := ok.form
          simp only [List.length_nil] at hkv
          subst hkv
          clear hst hss hsd hsf hx hp ok nk oa hJ hfr hct hk
          go_wp2_with fail
          refine RL.mono ?_
          rintro e w3 ⟨rfl, h3, f3⟩
          have H3 : Hid (HP w3 p g (relP M bs (O.take (t + 1))) ∧ Fr (fun k => k = g) wr w3) := ⟨h3, f3⟩
          clear h3 f3 RL
          go_wp2_with fail
          go_roundw
          case rel =>
            obtain ⟨y1, y2, y3, y4⟩ := FIN.out _ H3.out.1 H3.out.2
            exact ⟨t + 1, c + 1, by go_num, by omega, by go_num, HX.out.1, H3.out.1, y1, HX.out.2.2.1, y2, y3, y4⟩
          case measure => simp [intOf]; omega
        | cons y r =>
          have hlt := hsf y r hk
          have hne : (y == x) = false := by simp; omega
          rw [hk] at ok
          obtain ⟨kb, ko, kc, hkv, hk0, hk1, -, -, -⟩ := first_own ok
          subst hkv
          have hkl : (0 : Int) < (r.length : Int) + 1 := by omega
          clear hst hss hsd hsf hx hp ok nk oa hJ hfr hct hk
          generalize r.length = kl at *
          go_wp2_with fail
          refine RL.mono ?_
          rintro e w3 ⟨rfl, h3, f3⟩
          have H3 : Hid (HP w3 p g (relP M bs (O.take (t + 1))) ∧ Fr (fun k => k = g) wr w3) := ⟨h3, f3⟩
          clear h3 f3 RL
          go_wp2_with fail
          go_roundw
          case rel =>
            obtain ⟨y1, y2, y3, y4⟩ := FIN.out _ H3.out.1 H3.out.2
            exact ⟨t + 1, c + 1, by go_num, by omega, by go_num, HX.out.1, H3.out.1, y1, HX.out.2.2.1, y2, y3, y4⟩
          case measure => simp [intOf]; omega
    · obtain rfl : t = n := by omega
      have HZ : Hid (c = t - (seenL M O).length ∧ HP wr p g (relP M bs O) ∧ J (j0 ++ js) B wr ∧ Fr (fun k => k = g ∨ B0 k) w wr) := by
        rw [List.take_of_length_le (by omega)] at hct hp
        exact ⟨by omega, hp, hJ, hfr⟩
      clear hct hp ok nk oa hJ hfr
      go_wp2_with fail
      go_ret
      obtain ⟨z1, z2, z3, z4⟩ := HZ.out
      exact ⟨js, B, M, by rw [hln, z1]; rfl, z2, z3, z4, HC.out⟩
end Go.Proofs.Ytopcbcdigllenaa
