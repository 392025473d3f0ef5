/- The program's watch and the document's: each call keeps them alike. -/
import Derived.Test.YtnineggppoipiaaSm
namespace Go.Proofs.Ytnineggppoipiaa

section
variable {F : Cm} {D : Dw}
theorem tick_ge (c : Nat → Int) (t : Nat) : ∀ j, c j ≤ tickC c t j := fun j => by
  unfold tickC setT
  split
  · rename_i e; subst e; omega
  · exact Int.le_refl _
theorem Sim.ksOf (h : Sim F D) (ks : List Kp) (hk : ∀ b j, kC ks b j = kC D.ks b j) : Sim F { D with ks := ks } :=
  ⟨h.now, h.fin, fun a => (h.lck a).trans (hk a (-1)).symm, fun a i hi => (h.vol a i hi).trans (hk a i).symm, h.le, h.frm, h.top⟩
theorem Sim.nOf (h : Sim F D) (n : Int) : Sim F { D with n := n } := ⟨h.now, h.fin, h.lck, h.vol, h.le, h.frm, h.top⟩

theorem Sim.beginS (h : Sim F D) (t b : Int) : Sim (beginP F t b) ⟨beginW D.T t b, D.ks, D.as_, D.n⟩ := by
  cases hh : isB t && isB b with
  | false =>
    have e1 : beginP F t b = F := by unfold beginP; rw [hh]; rfl
    have e2 : beginW D.T t b = D.T := by unfold beginW; rw [hh]; rfl
    rw [e1, e2]
    exact h
  | true =>
    have ht' : isB t = true := by rw [Bool.and_eq_true] at hh; exact hh.1
    have hb' : isB b = true := by rw [Bool.and_eq_true] at hh; exact hh.2
    obtain ⟨tn, rfl, t2, t1⟩ := isB_nat ht'
    obtain ⟨bn, rfl, b2, b1⟩ := isB_nat hb'
    have e1 : beginP F tn bn = putP (putP F (th tn) (joinC (nowP F tn) (nowP F bn))) (th bn) (tickC (nowP (putP F (th tn) (joinC (nowP F tn) (nowP F bn))) bn) bn) := by unfold beginP; rw [hh]; rfl
    have e2 : beginW D.T tn bn = tickW (joinW D.T tn (D.T.now bn)) bn := by unfold beginW; rw [hh]; rfl
    rw [e1, e2]
    have s1 := h.set (t := tn) t1 (by omega) (joinC (nowP F tn) (nowP F bn)) (fun j => before_join_l j)
    have s2 := s1.set (t := bn) b1 (by omega) (tickC (nowP (putP F (th tn) (joinC (nowP F tn) (nowP F bn))) bn) bn) (tick_ge _ _)
    have n1 := s1.now bn b1 (by omega)
    rw [n1] at s2 ⊢
    rw [h.now tn t1 (by omega), h.now bn b1 (by omega)] at s2 ⊢
    exact s2

theorem Sim.endS (h : Sim F D) (t : Int) : Sim (endP F t) ⟨endW D.T t, D.ks, D.as_, D.n⟩ := by
  cases hh : isB t with
  | false =>
    have e1 : endP F t = F := by unfold endP; rw [hh]; rfl
    have e2 : endW D.T t = D.T := by unfold endW; rw [hh]; rfl
    rw [e1, e2]
    exact h
  | true =>
    obtain ⟨tn, rfl, t2, t1⟩ := isB_nat hh
    have e1 : endP F tn = putP F ⟨1, tn, 0, 0⟩ (nowP F tn) := by unfold endP; rw [hh]; rfl
    have e2 : endW D.T tn = { D.T with fin := setT D.T.fin tn (D.T.now tn), ended := setT D.T.ended tn true } := by unfold endW; rw [hh]; rfl
    rw [e1, e2]
    refine h.grow rfl (fun q hq => put_ne _ _ (fun e => by rw [e] at hq; rcases hq with e | e <;> simp at e)) (fun u u1 u2 => by rw [now_put _ _ (by simp)]; exact h.now u u1 u2) (fun u j => by rw [now_put _ _ (by simp)]; exact Int.le_refl _) (fun o => ?_)
      (fun a => by rw [get_ne _ _ (pk_ne_k (by decide))]; exact h.lck a) (fun a i hi => by rw [get_ne _ _ (pk_ne_k (by decide))]; exact h.vol a i hi)
    by_cases e : o = (tn : Int)
    · subst e
      rw [put_same]
      show _ = if (isB (tn : Int) && setT D.T.ended tn true tn) = true then some (setT D.T.fin tn (D.T.now tn) tn) else none
      rw [setT_same, setT_same, hh, h.now tn t1 (by omega)]
      rfl
    · rw [put_ne _ _ (pk_ne_t e), h.fin o]
      show _ = if (isB o && setT D.T.ended tn true o.toNat) = true then some (setT D.T.fin tn (D.T.now tn) o.toNat) else none
      cases ho : isB o with
      | false => rfl
      | true =>
        obtain ⟨on, rfl, o2, o1⟩ := isB_nat ho
        have hne : ¬ ((on : Int).toNat = tn) := by omega
        rw [setT_ne _ _ hne, setT_ne _ _ hne]

theorem join_zero {c : Nat → Int} (h : ∀ j, 0 ≤ c j) : joinC c zeroC = c := by
  funext j
  have := h j
  unfold joinC zeroC
  omega
theorem set_self {α : Type} (f : Nat → α) (t : Nat) : setT f t (f t) = f := by
  funext i
  unfold setT
  split
  · rename_i e; rw [e]
  · rfl
theorem Sim.joinedS (h : Sim F D) (hB : BP F 1000000) (t o : Int) : Sim (acqP F t ⟨1, o, 0, 0⟩) ⟨joinedW D.T t o, D.ks, D.as_, D.n⟩ := by
  cases hh : isB t with
  | false =>
    have e1 : acqP F t ⟨1, o, 0, 0⟩ = F := by unfold acqP; rw [hh]; rfl
    have e2 : joinedW D.T t o = D.T := by unfold joinedW; rw [hh]; rfl
    rw [e1, e2]
    exact h
  | true =>
    obtain ⟨tn, rfl, t2, t1⟩ := isB_nat hh
    rw [acq_of F t1 (by omega)]
    have s1 := h.set (t := tn) t1 (by omega) (joinC (nowP F tn) (getP F ⟨1, o, 0, 0⟩)) (fun j => before_join_l j)
    cases ho : isB o && D.T.ended o.toNat with
    | false =>
      have e2 : joinedW D.T tn o = D.T := by unfold joinedW; rw [hh, ho]; rfl
      have hz : getP F ⟨1, o, 0, 0⟩ = zeroC := by
        unfold getP
        rw [h.fin o, ho]
        rfl
      rw [hz, join_zero (now_nn hB tn)] at s1 ⊢
      rw [h.now tn t1 (by omega), set_self] at s1
      rw [h.now tn t1 (by omega), e2]
      exact s1
    | true =>
      have e2 : joinedW D.T tn o = joinW D.T tn (D.T.fin o.toNat) := by unfold joinedW; rw [hh, ho]; rfl
      have hz : getP F ⟨1, o, 0, 0⟩ = D.T.fin o.toNat := by
        unfold getP
        rw [h.fin o, ho]
        rfl
      rw [hz, h.now tn t1 (by omega)] at s1
      rw [hz, h.now tn t1 (by omega), e2]
      exact s1

theorem Sim.acqS (h : Sim F D) (t a i : Int) (q : Pk) (hq : getP F q = kC D.ks a i) : Sim (acqP F t q) ⟨acqW D.T D.ks t a i, acqK D.ks t a i, D.as_, D.n⟩ := by
  cases hh : isB t with
  | false =>
    have e1 : acqP F t q = F := by unfold acqP; rw [hh]; rfl
    have e2 : acqW D.T D.ks t a i = D.T := by unfold acqW; rw [hh]; rfl
    have e3 : acqK D.ks t a i = D.ks := by unfold acqK; rw [hh]; rfl
    rw [e1, e2, e3]
    exact h
  | true =>
    obtain ⟨tn, rfl, t2, t1⟩ := isB_nat hh
    rw [acq_of F t1 (by omega)]
    have e2 : acqW D.T D.ks tn a i = joinW D.T tn (kC D.ks a i) := by unfold acqW; rw [hh]; rfl
    have e3 : acqK D.ks tn a i = kAdd D.ks a i := by unfold acqK; rw [hh]; rfl
    rw [e2, e3]
    have s1 := (h.set (t := tn) t1 (by omega) (joinC (nowP F tn) (getP F q)) (fun j => before_join_l j)).ksOf (kAdd D.ks a i) (fun b j => kC_add D.ks a i b j)
    rw [hq, h.now tn t1 (by omega)] at s1 ⊢
    exact s1

/-- A clock of a lock or a volatile word is set. -/
theorem Sim.keep (h : Sim F D) (q : Pk) (a i : Int) (c : Nat → Int) (hq : (q = ⟨2, 0, a, 0⟩ ∧ i = -1) ∨ (q = ⟨3, 0, a, i⟩ ∧ 0 ≤ i)) : Sim (putP F q c) { D with ks := kSet D.ks a i c } := by
  have hk : q.k ≠ 0 ∧ q.k ≠ 1 ∧ q.k ≠ 4 ∧ q.k ≠ 5 := by rcases hq with ⟨rfl, -⟩ | ⟨rfl, -⟩ <;> simp
  refine h.grow rfl (fun r hr => put_ne _ _ (fun e => by rw [e] at hr; rcases hr with e | e; exact hk.2.2.1 e; exact hk.2.2.2 e)) (fun u u1 u2 => by rw [now_put _ _ hk.1]; exact h.now u u1 u2) (fun u j => by rw [now_put _ _ hk.1]; exact Int.le_refl _)
    (fun o => by rw [put_ne _ _ (fun e => hk.2.1 (by rw [← e]))]; exact h.fin o) (fun b => ?_) (fun b j hj => ?_)
  · rw [kC_set]
    rcases hq with ⟨rfl, rfl⟩ | ⟨rfl, hi⟩
    · by_cases e : b = a
      · subst e
        rw [get_same, if_pos ⟨rfl, rfl⟩]
      · rw [get_ne _ _ (fun x => e (congrArg Pk.a x)), if_neg (fun x => e x.1)]
        exact h.lck b
    · rw [get_ne _ _ (pk_ne_k (by decide)), if_neg (fun x => by omega)]
      exact h.lck b
  · rw [kC_set]
    rcases hq with ⟨rfl, rfl⟩ | ⟨rfl, hi⟩
    · rw [get_ne _ _ (pk_ne_k (by decide)), if_neg (fun x => by omega)]
      exact h.vol b j hj
    · by_cases e : b = a ∧ j = i
      · obtain ⟨rfl, rfl⟩ := e
        rw [get_same, if_pos ⟨rfl, rfl⟩]
      · rw [get_ne _ _ (fun x => e ⟨congrArg Pk.a x, congrArg Pk.i x⟩), if_neg e]
        exact h.vol b j hj
theorem Sim.getOf (h : Sim F D) (q : Pk) (a i : Int) (hq : (q = ⟨2, 0, a, 0⟩ ∧ i = -1) ∨ (q = ⟨3, 0, a, i⟩ ∧ 0 ≤ i)) : getP F q = kC D.ks a i := by
  rcases hq with ⟨rfl, rfl⟩ | ⟨rfl, hi⟩
  · exact h.lck a
  · exact h.vol a i hi

theorem Sim.relS (h : Sim F D) (t a i : Int) (q : Pk) (hq : (q = ⟨2, 0, a, 0⟩ ∧ i = -1) ∨ (q = ⟨3, 0, a, i⟩ ∧ 0 ≤ i)) : Sim (relP F t q) ⟨relW D.T t, relK D.T D.ks t a i, D.as_, D.n⟩ := by
  cases hh : isB t with
  | false =>
    have e1 : relP F t q = F := by unfold relP; rw [hh]; rfl
    have e2 : relW D.T t = D.T := by unfold relW; rw [hh]; rfl
    have e3 : relK D.T D.ks t a i = D.ks := by unfold relK; rw [hh]; rfl
    rw [e1, e2, e3]
    exact h
  | true =>
    obtain ⟨tn, rfl, t2, t1⟩ := isB_nat hh
    have hk : q.k ≠ 0 := by rcases hq with ⟨rfl, -⟩ | ⟨rfl, -⟩ <;> simp
    rw [rel_of F t1 (by omega) q hk]
    have e2 : relW D.T tn = tickW D.T tn := by unfold relW; rw [hh]; rfl
    have e3 : relK D.T D.ks tn a i = kSet D.ks a i (joinC (kC D.ks a i) (D.T.now tn)) := by unfold relK; rw [hh]; rfl
    rw [e2, e3]
    have s1 := h.keep q a i (joinC (getP F q) (nowP F tn)) hq
    have s2 := s1.set (t := tn) t1 (by omega) (tickC (nowP F tn) tn) (by rw [now_put _ _ hk]; exact tick_ge _ _)
    rw [h.getOf q a i hq, h.now tn t1 (by omega)] at s2 ⊢
    exact s2

theorem uno_put (F : Cm) (q : Pk) (c : Nat → Int) (hq : q.k ≠ 0) (t : Nat) (hqt : q.t = (t : Int)) (kd a i : Int) : unoB (putP F q c) t kd a i = unoB F t kd a i := by
  have : ∀ u : Nat, u ≠ t → getP (putP F q c) ⟨kd, (u : Int), a, i⟩ = getP F ⟨kd, (u : Int), a, i⟩ := fun u hu => get_ne _ _ (fun e => hu (by have := congrArg Pk.t e; simp only [hqt] at this; omega))
  cases h : unoB F t kd a i with
  | false =>
    refine uno_iff.2 fun u u1 u2 hu => ?_
    rw [this u hu, now_put _ _ hq]
    exact uno_iff.1 h u u1 u2 hu
  | true =>
    cases h2 : unoB (putP F q c) t kd a i with
    | true => rfl
    | false =>
      have : unoB F t kd a i = false := uno_iff.2 fun u u1 u2 hu => by
        have h3 := uno_iff.1 h2 u u1 u2 hu
        rwa [this u hu, now_put _ _ hq] at h3
      rw [h] at this
      exact absurd this (by decide)
/-- Unordered with what the watch keeps, and with what was done. -/
theorem Sim.unoS (h : Sim F D) (hB : BP F 1000000) {t : Nat} (h1 : 1 ≤ t) (h2 : t ≤ 12) (wr : Bool) (a i : Int) :
    unoB F t (kdOf wr) a i = true ↔ ∃ x, x ∈ D.as_ ∧ x.at_ = a ∧ x.i = i ∧ x.t ≠ (t : Int) ∧ x.wr = wr ∧ beforeB x.c (D.T.now t) = false := by
  constructor
  · intro hu
    have : ¬ (∀ u : Nat, 1 ≤ u → u ≤ 12 → u ≠ t → beforeB (getP F ⟨kdOf wr, (u : Int), a, i⟩) (nowP F t) = true) := fun hall => by
      rw [uno_iff.2 hall] at hu
      exact absurd hu (by decide)
    have : ∃ u : Nat, 1 ≤ u ∧ u ≤ 12 ∧ u ≠ t ∧ beforeB (getP F ⟨kdOf wr, (u : Int), a, i⟩) (nowP F t) = false := Classical.byContradiction fun hn => this fun u u1 u2 hne => by
      cases hb : beforeB (getP F ⟨kdOf wr, (u : Int), a, i⟩) (nowP F t) with
      | true => rfl
      | false => exact absurd ⟨u, u1, u2, hne, hb⟩ hn
    obtain ⟨u, u1, u2, hne, hb⟩ := this
    rcases h.frm wr u a i with e | ⟨x, hx, e1, e2, e3, e4, e5⟩
    · rw [e, zero_before (now_nn hB t)] at hb
      exact absurd hb (by decide)
    · refine ⟨x, hx, e2, e3, by rw [e1]; omega, e4, ?_⟩
      rw [e5, ← h.now t h1 h2]
      exact hb
  · rintro ⟨x, hx, e1, e2, e3, e4, e5⟩
    obtain ⟨hb, hl⟩ := h.le x hx
    obtain ⟨u, hu, u2, u1⟩ := isB_nat hb
    refine uno_true (t := u) u1 (by omega) (by omega) ?_
    cases hbb : beforeB (getP F ⟨kdOf wr, (u : Int), a, i⟩) (nowP F t) with
    | false => rfl
    | true =>
      have : beforeB x.c (D.T.now t) = true := by
        rw [← h.now t h1 h2]
        refine before_yes fun j hj => Int.le_trans (hl j) ?_
        rw [e4, hu, e1, e2]
        exact (before_iff _ _).1 hbb j hj
      rw [e5] at this
      exact absurd this (by decide)

theorem Sim.accS (h : Sim F D) (hB : BP F 1000000) (t a i : Int) (wr : Bool) :
    touB F ⟨kdOf wr, t, a, i⟩ = accB D.T D.as_ t a i wr ∧ Sim (touF F ⟨kdOf wr, t, a, i⟩) ⟨D.T, D.ks, accA D.T D.as_ t a i wr, D.n⟩ := by
  cases hh : isB t with
  | false =>
    have e1 : touB F ⟨kdOf wr, t, a, i⟩ = false := by unfold touB; rw [hh]; rfl
    have e2 : touF F ⟨kdOf wr, t, a, i⟩ = F := by unfold touF; rw [hh]; rfl
    have e3 : accB D.T D.as_ t a i wr = false := by unfold accB; rw [hh]; rfl
    have e4 : accA D.T D.as_ t a i wr = D.as_ := by unfold accA; rw [hh]; rfl
    rw [e1, e2, e3, e4]
    exact ⟨rfl, h⟩
  | true =>
    obtain ⟨tn, rfl, t2, t1⟩ := isB_nat hh
    have hk0 : kdOf wr ≠ 0 := kd_ne wr (by decide) (by decide)
    have e2 := touF_of F (kdOf wr) a i t1 (by omega : tn ≤ 12)
    have e4 : accA D.T D.as_ tn a i wr = D.as_ ++ [⟨tn, a, i, wr, D.T.now tn⟩] := by unfold accA; rw [hh]; rfl
    have hn := h.now tn t1 (by omega)
    constructor
    · have e3 : accB D.T D.as_ tn a i wr = D.as_.any (hitA D.T tn a i wr) := by unfold accB; rw [hh]; rfl
      have e1 : touB F ⟨kdOf wr, tn, a, i⟩ = (unoB F tn 5 a i || (wr && unoB F tn 4 a i)) := by
        cases wr with
        | true => show touB F ⟨5, tn, a, i⟩ = _; rw [touB_w F a i t1 (by omega), uno_put _ _ _ (by simp) tn rfl, uno_put _ _ _ (by simp) tn rfl, Bool.true_and]
        | false => show touB F ⟨4, tn, a, i⟩ = _; rw [touB_r F a i t1 (by omega), uno_put _ _ _ (by simp) tn rfl, Bool.false_and, Bool.or_false]
      rw [e1, e3]
      have w5 := h.unoS hB t1 (by omega : tn ≤ 12) true a i
      have w4 := h.unoS hB t1 (by omega : tn ≤ 12) false a i
      have w5' : unoB F tn 5 a i = true ↔ _ := w5
      have w4' : unoB F tn 4 a i = true ↔ _ := w4
      have key : (unoB F tn 5 a i || (wr && unoB F tn 4 a i)) = true ↔ D.as_.any (hitA D.T tn a i wr) = true := by
        rw [List.any_eq_true, Bool.or_eq_true, Bool.and_eq_true, w5', w4']
        constructor
        · rintro (⟨x, hx, p1, p2, p3, p4, p5⟩ | ⟨hw, x, hx, p1, p2, p3, p4, p5⟩)
          · exact ⟨x, hx, by unfold hitA; simp [p1, p2, p3, p4, p5]⟩
          · exact ⟨x, hx, by unfold hitA; simp [p1, p2, p3, hw, p5]⟩
        · rintro ⟨x, hx, hit⟩
          unfold hitA at hit
          simp only [Bool.and_eq_true, decide_eq_true_eq, Bool.not_eq_true', decide_eq_false_iff_not, Bool.or_eq_true] at hit
          obtain ⟨p1, p2, p3, p4, p5⟩ := hit
          cases hw : x.wr with
          | true => exact .inl ⟨x, hx, p1, p2, p3, hw, p5⟩
          | false =>
            rcases p4 with p4 | p4
            · exact .inr ⟨p4, x, hx, p1, p2, p3, hw, p5⟩
            · rw [hw] at p4
              exact absurd p4 (by decide)
      cases hl : (unoB F tn 5 a i || (wr && unoB F tn 4 a i)) with
      | true => exact (key.1 hl).symm
      | false =>
        cases hr : D.as_.any (hitA D.T tn a i wr) with
        | false => rfl
        | true =>
          rw [key.2 hr] at hl
          exact absurd hl (by decide)
    · rw [e2, e4]
      have hst : ∀ j, getP F ⟨kdOf wr, (tn : Int), a, i⟩ j ≤ nowP F tn j := fun j => h.top wr tn a i t1 (by omega) j
      refine ⟨fun u u1 u2 => by rw [now_put _ _ hk0]; exact h.now u u1 u2, fun o => by rw [put_ne _ _ (pk_ne_k (Ne.symm (kd_ne wr (by decide) (by decide))))]; exact h.fin o,
        fun b => by rw [get_ne _ _ (pk_ne_k (Ne.symm (kd_ne wr (by decide) (by decide))))]; exact h.lck b, fun b j hj => by rw [get_ne _ _ (pk_ne_k (Ne.symm (kd_ne wr (by decide) (by decide))))]; exact h.vol b j hj, fun x hx => ?_, fun w2 u b j => ?_, fun w2 u b j u1 u2 m => ?_⟩
      · rcases List.mem_append.1 hx with hx | hx
        · obtain ⟨g1, g2⟩ := h.le x hx
          refine ⟨g1, fun j => ?_⟩
          by_cases e : (⟨kdOf x.wr, x.t, x.at_, x.i⟩ : Pk) = ⟨kdOf wr, (tn : Int), a, i⟩
          · rw [e, get_same]
            have := g2 j
            rw [e] at this
            exact Int.le_trans this (hst j)
          · rw [get_ne _ _ e]
            exact g2 j
        · obtain rfl := List.mem_singleton.1 hx
          refine ⟨hh, fun j => ?_⟩
          show D.T.now tn j ≤ getP _ ⟨kdOf wr, (tn : Int), a, i⟩ j
          rw [get_same, hn]
          exact Int.le_refl _
      · by_cases e : (⟨kdOf w2, u, b, j⟩ : Pk) = ⟨kdOf wr, (tn : Int), a, i⟩
        · rw [e, get_same]
          refine .inr ⟨⟨tn, a, i, wr, D.T.now tn⟩, by simp, (congrArg Pk.t e).symm, (congrArg Pk.a e).symm, (congrArg Pk.i e).symm, ?_, hn.symm⟩
          have := congrArg Pk.k e
          cases w2 <;> cases wr <;> simp [kdOf] at this ⊢
        · rw [get_ne _ _ e]
          rcases h.frm w2 u b j with g | ⟨x, hx, g⟩
          · exact .inl g
          · exact .inr ⟨x, List.mem_append_left _ hx, g⟩
      · rw [now_put _ _ hk0]
        by_cases e : (⟨kdOf w2, (u : Int), b, j⟩ : Pk) = ⟨kdOf wr, (tn : Int), a, i⟩
        · rw [e, get_same]
          have : u = tn := by have := congrArg Pk.t e; simp only at this; omega
          rw [this]
          exact Int.le_refl _
        · rw [get_ne _ _ e]
          exact h.top w2 u b j u1 u2 m
end
end Go.Proofs.Ytnineggppoipiaa
