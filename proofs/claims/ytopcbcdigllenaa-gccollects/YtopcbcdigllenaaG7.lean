/- Mark: with whatever function tells the references. -/
import Derived.Test.YtopcbcdigllenaaG6
namespace Go.Proofs.Ytopcbcdigllenaa
open Go.ChangeShapes Go.WideShapes Go.ChangeAt Go.RowKit

/-- A function that tells references: what it tells of each address; what holds of the world behind so many questions, and which blocks that speaks of. -/
structure Refs (fn : FuncId) (cap : Array Value) (E : Int → List Int) (J : List Int → (Nat → Prop) → World → Prop) (N : Nat) : Prop where
  en : ∀ a w, (callFunc fn (#[.int .i64 a] ++ cap)).run Try.prog w = .ok (.enter fn (#[.int .i64 a] ++ cap)) w
  call : ∀ w js B a, J js B w → js.length < N → 1 ≤ a → a ≤ 4000 → Calls Try.prog fn (#[.int .i64 a] ++ cap) w fun e w' => ∃ v B', e = .returned v ∧ OwnG elI w' v (E a) ∧ NewV w v ∧ J (js ++ [a]) B' w' ∧ Fr B w w' ∧ ∀ k, k < w.heap.size → B' k → B k
  keep : ∀ w w' js B T, J js B w → Fr T w w' → (∀ k, B k → ¬ T k) → J js B w'
  lt : ∀ w js B, J js B w → ∀ k, B k → k < w.heap.size
  len : ∀ a, (E a).length ≤ 100000

theorem reachP_more (M : List Nat) (S L : List Int) : S.length ≤ (reachP M S L).2.length := by
  induction L generalizing M S with
  | nil => exact Nat.le_refl _
  | cons x r ih =>
    have e : reachP M S (x :: r) = reachP (stR (M, S) x).1 (stR (M, S) x).2 r := rfl
    rw [e]
    refine Nat.le_trans ?_ (ih _ _)
    unfold stR
    split
    · simp
    · exact Nat.le_refl _

/-- Where the walk stands ahead of a round. -/
def MarkAt (w : World) (p m : Nat) (rv fv vO vM : Value) (E : Int → List Int) (O R : List Int) (n : Nat) (J : List Int → (Nat → Prop) → World → Prop) (j0 : List Int) (B0 : Nat → Prop) (c : Nat) (x : Act) (wr : World) : Prop :=
  ∃ (vS : Value) (js : List Int) (M : List Nat) (S : List Int) (B : Nat → Prop) (u3 u4 u5 u6 u8 u9 u10 u11 u12 u13 u14 u15 u16 u17 u18 u19 u20 u21 u22 : Value),
    x = { tmps := #[.pointer (some ⟨p, 0, none⟩), rv, fv, u3, u4, u5, u6, .pointer (some ⟨m, 0, none⟩), u8, u9, u10, u11, u12, u13, u14, u15, u16, u17, u18, u19, u20, u21, u22], defers := [] } ∧
    Mk wr m vO vM vS O M S ∧ Iv E O R n js M S ∧ (∀ a ∈ R, a ∈ O → M[a.toNat]? = some 2) ∧ (∀ a ∈ js, ∀ b ∈ E a, b ∈ O → M[b.toNat]? = some 2) ∧
    J (j0 ++ js) B wr ∧ Fr B0 w wr ∧ (∀ k, k < w.heap.size → B k → B0 k) ∧ (∀ k, B k → ¬ mB m vM vS k ∧ vO.ownBlock ≠ some k) ∧ NewV w vS ∧ 2 * M.count 1 + S.length = c ∧ M.count 1 + S.length ≤ 5000

theorem mB_low {w : World} {m : Nat} {vM vS : Value} (h1 : w.heap.size ≤ m) (h2 : NewV w vM) (h3 : NewV w vS) (k : Nat) (hk : mB m vM vS k) : w.heap.size ≤ k := by
  rcases hk with e | e | e
  · omega
  · exact h2 k e
  · exact h3 k e

set_option maxHeartbeats 4000000 in
set_option maxRecDepth 100000 in
theorem mark_any (w : World) (p g : Nat) (bs : List Blk) (h : HP w p g bs) (rv : Value) (R : List Int) (hrv : OwnG elI w rv R) (hR : R.length ≤ 1000000)
    (fn : FuncId) (cap : Array Value) (E : Int → List Int) (J : List Int → (Nat → Prop) → World → Prop) (N : Nat) (RF : Refs fn cap E J N) (j0 : List Int) (B0 : Nat → Prop) (hj : J j0 B0 w) (hN : j0.length + (objsA 0 bs).length ≤ N) :
    Calls Try.prog 26 #[.pointer (some ⟨p, 0, none⟩), rv, .func (.func fn) #[] cap] w fun e w' => ∃ v js B M, e = .returned v ∧ OwnG elI w' v (seenL M (objsA 0 bs)) ∧ NewV w v ∧ J (j0 ++ js) B w' ∧ Fr B0 w w' ∧ (∀ k, k < w.heap.size → B k → B0 k) ∧
      (∀ a ∈ objsA 0 bs, M[a.toNat]? = some 2 ↔ Reach E (objsA 0 bs) R a) ∧ js.length = (seenL M (objsA 0 bs)).length := by
  have BG := begin_any w p g bs h
  have hfl := h.len
  have hin1 : ∀ a ∈ objsA 0 bs, 1 ≤ a ∧ a ≤ ((flat bs).length : Int) := fun a ha => by
    have := objsA_in 0 bs a ha
    have e : siz bs = (flat bs).length := rfl
    omega
  have hin : ∀ a ∈ objsA 0 bs, 0 ≤ a ∧ a ≤ ((flat bs).length : Int) := fun a ha => by
    have := hin1 a ha
    omega
  have hnd := objsA_nodup 0 bs
  have hol : (objsA 0 bs).length ≤ (flat bs).length := by
    rw [objsA_eq, List.length_map]
    have := (freesA_len 0 bs).2
    have e : siz bs = (flat bs).length := rfl
    omega
  have HRF : Hid (Refs fn cap E J N) := RF
  have hen := RF.en
  have HJ : Hid (J j0 B0 w) := hj
  have HRV : Hid (OwnG elI w rv R) := hrv
  clear h RF hj hrv
  generalize objsA 0 bs = O at *
  generalize (flat bs).length = n at *
  go_enter Try.func26, Try.ntmps26
  go_wp2_with fail
  refine wp_label_fuel 0 (fun c x wr => ∃ m vO vM, MarkAt w p m rv (.func (.func fn) #[] cap) vO vM E O R n J j0 B0 c x wr ∧ w.heap.size ≤ m ∧ NewV w vO ∧ NewV w vM) rfl ?_ ?_
  · intro K h0 hr hn
    go_wp2_with fail
    refine BG.mono ?_
    rintro e w1 ⟨m, vO, vM, rfl, mk1, f1, hm, nO, nM⟩
    have RG := reach_any w1 m vO vM (.slice none 0 0) rv O (startM n O) [] R mk1 (HRV.out.keep f1) (fun k _ e => by simp [Value.ownBlock] at e) hR (by
      have h1 := List.count_le_length (a := 1) (l := startM n O)
      rw [startM_len] at h1
      simp
      omega)
    have H1 : Hid (Fr no w w1 ∧ w.heap.size ≤ m ∧ NewV w vO ∧ NewV w vM) := ⟨f1, hm, nO, nM⟩
    clear BG mk1 f1 hm nO nM
    go_wp2_with fail
    refine RG.mono ?_
    rintro e w2 ⟨rfl, vS, mk2, f2, sp2⟩
    have H2 : Hid (Mk w2 m vO vM vS O (reachP (startM n O) [] R).1 (reachP (startM n O) [] R).2 ∧ Fr (mB m vM (.slice none 0 0)) w1 w2 ∧ ∀ k, k < w1.heap.size → vS.ownBlock = some k → (Value.slice none 0 0).ownBlock = some k) := ⟨mk2, f2, sp2⟩
    clear mk2 f2 sp2 RG
    go_wp2_with fail
    go_step3
    rename_i hk
    obtain ⟨mk2, f2, sp2⟩ := H2.out
    obtain ⟨f1, hm, nO, nM⟩ := H1.out
    have low := fun k (hk : mB m vM (.slice none 0 0) k) => mB_low hm nM (NewV.nil w) k hk
    have fr2 : Fr no w w2 := f1.new f2 (fun k hk e => by have := low k e; omega)
    have iv0 : Iv E O R n [] (startM n O) [] := Iv.start hin
    obtain ⟨iv2, -, rt2⟩ := iv0.reach R (fun a h1 h2 => Reach.root h1 h2)
    have nS : NewV w vS := fun k hk => by
      by_cases hlt : k < w1.heap.size
      · have := sp2 k hlt hk
        simp [Value.ownBlock] at this
      · have := f1.size
        omega
    obtain ⟨l1, l2⟩ := reachP_len (startM n O) [] R
    have h1 := List.count_le_length (a := 1) (l := startM n O)
    rw [startM_len] at h1
    refine hk _ _ (h0 _ _ _ ⟨m, vO, vM, ⟨vS, [], _, _, B0, _, _, _, _, _, _, _, _, _, _, _, _, _, _, _, _, _, _, _, rfl, mk2, iv2, rt2, fun a ha => by simp at ha, ?_, fr2.up, fun k _ hb => hb, fun k hb => ?_, nS, rfl, ?_⟩, hm, nO, nM⟩)
    · rw [List.append_nil]
      exact HRF.out.keep w w2 j0 B0 no HJ.out fr2 (fun _ _ f => f)
    · have := HRF.out.lt w j0 B0 HJ.out k hb
      exact ⟨fun e => by have := mB_low hm nM nS k e; omega, fun e => by have := nO k e; omega⟩
    · simp only [List.length_nil] at l2
      omega
  · rintro c x wr ⟨m, vO, vM, ⟨vS, js, M, S, B, u3, u4, u5, u6, u8, u9, u10, u11, u12, u13, u14, u15, u16, u17, u18, u19, u20, u21, u22, rfl, mk, iv, hrt, hcl, hJ, hfr, hBB, hap, nS, hc, hc2⟩, hm, nO, nM⟩ K hj hr hn
    have DN := done_any wr m vO vM vS O M S mk
    have hml := iv.len
    have hfew := iv.few hnd
    rcases List.eq_nil_or_concat S with rfl | ⟨S0, x, hS⟩
    · have RE := reached_any wr m vO vM vS O M [] mk (by omega) (fun a ha => by have := hin a ha; omega)
      have HZ : Hid (J (j0 ++ js) B wr ∧ Fr B0 w wr ∧ (∀ k, k < w.heap.size → B k → B0 k) ∧ ((∀ a ∈ O, M[a.toNat]? = some 2 ↔ Reach E O R a) ∧ js.length = (seenL M O).length)) := ⟨hJ, hfr, hBB, iv.done hrt hcl hnd⟩
      have HB : Hid (∀ k, B k → k < wr.heap.size) := HRF.out.lt wr _ B hJ
      clear mk iv hrt hcl hJ hfr hBB hap hc hc2 hml hfew
      simp only [List.isEmpty_nil] at DN
      go_wp2_with fail
      refine DN.mono ?_
      rintro e w1 ⟨rfl, rfl⟩
      clear DN
      go_wp2_with fail
      refine RE.mono ?_
      rintro e w2 ⟨v, rfl, o2, n2, f2⟩
      have H2 : Hid (OwnG elI w2 v (seenL M O) ∧ NewV w1 v ∧ Fr no w1 w2) := ⟨o2, n2, f2⟩
      clear o2 n2 f2 RE
      go_wp2_with fail
      refine hr _ _ ?_
      go_ret
      obtain ⟨o2, n2, f2⟩ := H2.out
      obtain ⟨z1, z2, z3, z4, z5⟩ := HZ.out
      refine ⟨_, js, B, M, rfl, o2, fun k hk => ?_, HRF.out.keep w1 w2 _ B no z1 f2 (fun _ _ f => f), z2.trans f2 (fun _ _ x => x) (fun _ _ f => f.elim), z3, z4, z5⟩
      have := n2 k hk
      have := z2.size
      omega
    · rw [List.concat_eq_append] at hS
      subst hS
      have hl0 : (S0 ++ [x]).length = S0.length + 1 := by simp
      rw [hl0] at hc hc2 hfew
      have PP := pop_any wr m vO vM vS O M S0 x mk (by omega)
      have HX : Hid (Mk wr m vO vM vS O M (S0 ++ [x]) ∧ Iv E O R n js M (S0 ++ [x]) ∧ (∀ a ∈ R, a ∈ O → M[a.toNat]? = some 2) ∧ (∀ a ∈ js, ∀ b ∈ E a, b ∈ O → M[b.toNat]? = some 2) ∧
        J (j0 ++ js) B wr ∧ Fr B0 w wr ∧ (∀ k, k < w.heap.size → B k → B0 k) ∧ (∀ k, B k → ¬ mB m vM vS k ∧ vO.ownBlock ≠ some k) ∧ NewV w vS) := ⟨mk, iv, hrt, hcl, hJ, hfr, hBB, hap, nS⟩
      have HM : Hid (w.heap.size ≤ m ∧ NewV w vO ∧ NewV w vM) := ⟨hm, nO, nM⟩
      clear mk iv hrt hcl hJ hfr hBB hap hml hm nO nM nS
      have he : (S0 ++ [x]).isEmpty = false := by simp
      rw [he] at DN
      go_wp2_with fail
      refine DN.mono ?_
      rintro e w0 ⟨rfl, rfl⟩
      clear DN
      go_wp2_with fail
      refine PP.mono ?_
      rintro e w1 ⟨rfl, vS1, mk1, ob1, f1⟩
      obtain ⟨mk, iv, hrt, hcl, hJ, hfr, hBB, hap, nS⟩ := HX.out
      have J1 : J (j0 ++ js) B w1 := HRF.out.keep w0 w1 _ B (fun k => k = m) hJ f1 (fun k hb e => (hap k hb).1 (.inl e))
      have hx1 := hin1 x iv.pop.2.obj
      have CL := HRF.out.call w1 (j0 ++ js) B x J1 (by rw [List.length_append]; omega) hx1.1 (by omega)
      have hmb : ∀ k, mB m vM vS1 k ↔ mB m vM vS k := fun k => by unfold mB; rw [ob1]
      have H1 : Hid (Mk w1 m vO vM vS1 O M S0 ∧ vS1.ownBlock = vS.ownBlock ∧ Fr (fun k => k = m) w0 w1) := ⟨mk1, ob1, f1⟩
      clear mk iv hrt hcl hJ hfr hBB hap nS mk1 ob1 f1 J1 hmb PP
      go_wp2_with fail
      refine CL.mono ?_
      rintro e w2 ⟨v, B', rfl, ov, nv, J2, f2, bb2⟩
      have hlen := HRF.out.len x
      obtain ⟨mk1, ob1, f1⟩ := H1.out
      obtain ⟨mk, iv, hrt, hcl, hJ, hfr, hBB, hap, nS⟩ := HX.out
      have hmb : ∀ k, mB m vM vS1 k → mB m vM vS k := fun k hk => by unfold mB at *; rw [← ob1]; exact hk
      have mlt : ∀ k, mB m vM vS1 k → k < w1.heap.size := fun k hk => by
        rcases hk with e | e | e
        · rw [e]
          exact lt_of_heap mk1.hd
        · exact mk1.mm.lt e
        · exact mk1.s.lt e
      have mk2 : Mk w2 m vO vM vS1 O M S0 := mk1.kept f2 (fun k hk hb => (hap k hb).1 (hmb k hk)) (fun k hk hb => (hap k hb).2 hk)
      have RG := reach_any w2 m vO vM vS1 v O M S0 (E x) mk2 ov (fun k hk e => by
        have := nv k hk
        have := mk1.s.lt e
        omega) (by omega) (by omega)
      have H2 : Hid (NewV w1 v ∧ J ((j0 ++ js) ++ [x]) B' w2 ∧ Fr B w1 w2 ∧ (∀ k, k < w1.heap.size → B' k → B k) ∧ (∀ k, mB m vM vS1 k → mB m vM vS k) ∧ (∀ k, mB m vM vS1 k → k < w1.heap.size)) := ⟨nv, J2, f2, bb2, hmb, mlt⟩
      clear mk iv hrt hcl hJ hfr hBB hap nS mk1 ob1 f1 hmb mlt mk2 CL ov nv J2 f2 bb2
      go_wp2_with fail
      refine RG.mono ?_
      rintro e w3 ⟨rfl, vS2, mk3, f3, sp3⟩
      have H3 : Hid (Mk w3 m vO vM vS2 O (reachP M S0 (E x)).1 (reachP M S0 (E x)).2 ∧ Fr (mB m vM vS1) w2 w3 ∧ ∀ k, k < w2.heap.size → vS2.ownBlock = some k → vS1.ownBlock = some k) := ⟨mk3, f3, sp3⟩
      clear mk3 f3 sp3 RG
      go_wp2_with fail
      go_step3
      obtain ⟨mk3, f3, sp3⟩ := H3.out
      obtain ⟨nv, J2, f2, bb2, hmb, mlt⟩ := H2.out
      obtain ⟨mk1, ob1, f1⟩ := H1.out
      obtain ⟨mk, iv, hrt, hcl, hJ, hfr, hBB, hap, nS⟩ := HX.out
      obtain ⟨hm, nO, nM⟩ := HM.out
      obtain ⟨iv1, rx⟩ := iv.pop
      obtain ⟨iv3, up3, in3⟩ := iv1.reach (E x) (fun b h1 h2 => Reach.step rx h1 h2)
      obtain ⟨l1, l2⟩ := reachP_len M S0 (E x)
      have s0 := hfr.size
      have s1 := f1.size
      have s2 := f2.size
      have nS1 : NewV w vS1 := fun k hk => nS k (by rw [← ob1]; exact hk)
      have Blt := HRF.out.lt w2 _ B' J2
      have apB : ∀ k, B' k → ¬ mB m vM vS1 k ∧ vO.ownBlock ≠ some k := fun k hb => by
        by_cases hlt : k < w1.heap.size
        · have := hap k (bb2 k hlt hb)
          exact ⟨fun e => this.1 (hmb k e), this.2⟩
        · exact ⟨fun e => hlt (mlt k e), fun e => hlt (mk1.o.lt e)⟩
      have hcnt : (reachP M S0 (E x)).1.count 1 ≤ M.count 1 := by
        have := reachP_more M S0 (E x)
        omega
      refine hj _ _ _ ?_ ⟨m, vO, vM, ⟨vS2, js ++ [x], _, _, B', _, _, _, _, _, _, _, _, _, _, _, _, _, _, _, _, _, _, _, rfl, mk3, iv3, fun a h1 h2 => up3 _ (hrt a h1 h2), fun a h1 b h2 h3 => ?_, ?_, ?_, fun k hk hb => hBB k hk (bb2 k (by omega) hb), fun k hb => ?_, fun k hk => ?_, rfl, ?_⟩, hm, nO, nM⟩
      · omega
      · rcases List.mem_append.1 h1 with h1 | h1
        · exact up3 _ (hcl a h1 b h2 h3)
        · simp only [List.mem_singleton] at h1
          subst h1
          exact in3 b h2 h3
      · rw [← List.append_assoc]
        exact HRF.out.keep w2 w3 _ B' (mB m vM vS1) J2 f3 (fun k hb => (apB k hb).1)
      · have a1 : Fr B0 w w1 := hfr.trans f1 (fun _ _ x => x) (fun k hk e => by omega)
        have a2 : Fr B0 w w2 := a1.trans f2 (fun _ _ x => x) (fun k hk e => hBB k hk e)
        exact a2.trans f3 (fun _ _ x => x) (fun k hk e => by have := mB_low hm nM nS1 k e; omega)
      · have hb1 := apB k hb
        refine ⟨fun e => ?_, hb1.2⟩
        rcases e with e | e | e
        · exact hb1.1 (.inl e)
        · exact hb1.1 (.inr (.inl e))
        · exact hb1.1 (.inr (.inr (sp3 k (Blt k hb) e)))
      · by_cases hlt : k < w2.heap.size
        · exact nS1 k (sp3 k hlt hk)
        · omega
      · omega
end Go.Proofs.Ytopcbcdigllenaa
