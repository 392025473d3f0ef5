/- The program's watch: what the laws RaceReads and RaceLocked need of its clocks, without memory. -/
import Derived.Test.YtnineggppoipiaaPv
namespace Go.Proofs.Ytnineggppoipiaa

theorem before_iff (a b : Nat → Int) : beforeB a b = true ↔ ∀ j, j < 13 → a j ≤ b j := by
  refine ⟨fun h j hj => ?_, before_yes⟩
  unfold beforeB at h
  rw [List.all_eq_true] at h
  simpa using h j (by simpa using hj)
theorem uno_iff {F : Cm} {tn : Nat} {kd a i : Int} : unoB F tn kd a i = false ↔ ∀ t : Nat, 1 ≤ t → t ≤ 12 → t ≠ tn → beforeB (getP F ⟨kd, (t : Int), a, i⟩) (nowP F tn) = true := by
  constructor
  · intro h t h1 h2 hne
    unfold unoB at h
    rw [List.any_eq_false] at h
    have := h (t - 1) (by simp; omega)
    rw [show t - 1 + 1 = t by omega] at this
    unfold unoP at this
    simp only [decide_eq_true hne, Bool.true_and, Bool.not_eq_true', Bool.not_eq_false, ne_eq] at this
    simpa using this
  · intro h
    refine uno_no fun j hj => ?_
    unfold unoP
    by_cases e : j + 1 = tn
    · simp [e]
    · have := h (j + 1) (by omega) (by omega) e
      rw [show (((j + 1 : Nat)) : Int) = ((j : Nat) : Int) + 1 by omega] at this
      rw [show ((↑(j + 1) : Int)) = (j : Int) + 1 by omega] at *
      rw [this]
      simp
theorem uno_true {F : Cm} {tn : Nat} {kd a i : Int} {t : Nat} (h1 : 1 ≤ t) (h2 : t ≤ 12) (hne : t ≠ tn) (h : beforeB (getP F ⟨kd, (t : Int), a, i⟩) (nowP F tn) = false) : unoB F tn kd a i = true := by
  cases hu : unoB F tn kd a i with
  | true => rfl
  | false =>
    have := uno_iff.1 hu t h1 h2 hne
    rw [h] at this
    exact absurd this (by decide)

theorem put_same (F : Cm) (q : Pk) (c : Nat → Int) : putP F q c q = some c := if_pos rfl
theorem put_ne (F : Cm) {q r : Pk} (c : Nat → Int) (h : r ≠ q) : putP F q c r = F r := if_neg h
theorem get_same (F : Cm) (q : Pk) (c : Nat → Int) : getP (putP F q c) q = c := by unfold getP; rw [put_same]; rfl
theorem get_ne (F : Cm) {q r : Pk} (c : Nat → Int) (h : r ≠ q) : getP (putP F q c) r = getP F r := by unfold getP; rw [put_ne F c h]
theorem get_none {F : Cm} {q : Pk} (h : F q = none) : getP F q = zeroC := by unfold getP; rw [h]; rfl
theorem now_put (F : Cm) {q : Pk} (c : Nat → Int) (h : q.k ≠ 0) (t : Nat) : nowP (putP F q c) t = nowP F t := by
  unfold nowP
  rw [put_ne F c (fun e => h (by rw [← e]; rfl))]
theorem now_same (F : Cm) (t : Nat) (c : Nat → Int) : nowP (putP F (th t) c) t = c := by unfold nowP; rw [put_same]; rfl
theorem now_ne (F : Cm) {t u : Nat} (c : Nat → Int) (h : u ≠ t) : nowP (putP F (th t) c) u = nowP F u := by
  unfold nowP
  rw [put_ne F c (fun e => h (by have := congrArg Pk.t e; simp [th] at this; omega))]
theorem zero_before {c : Nat → Int} (h : ∀ j, 0 ≤ c j) : beforeB zeroC c = true := before_yes fun j _ => h j
theorem isB_of {t : Nat} (h1 : 1 ≤ t) (h2 : t ≤ 12) : isB (t : Int) = true := by
  unfold isB
  simp
  omega
theorem touF_of (F : Cm) {t : Nat} (kd a i : Int) (h1 : 1 ≤ t) (h2 : t ≤ 12) : touF F ⟨kd, (t : Int), a, i⟩ = putP F ⟨kd, (t : Int), a, i⟩ (nowP F t) := by
  unfold touF
  rw [isB_of h1 h2]
  rfl
theorem touB_r (F : Cm) {t : Nat} (a i : Int) (h1 : 1 ≤ t) (h2 : t ≤ 12) : touB F ⟨4, (t : Int), a, i⟩ = unoB (putP F ⟨4, (t : Int), a, i⟩ (nowP F t)) t 5 a i := by
  unfold touB
  rw [isB_of h1 h2, touF_of F 4 a i h1 h2]
  simp
theorem touB_w (F : Cm) {t : Nat} (a i : Int) (h1 : 1 ≤ t) (h2 : t ≤ 12) : touB F ⟨5, (t : Int), a, i⟩ = (unoB (putP F ⟨5, (t : Int), a, i⟩ (nowP F t)) t 5 a i || unoB (putP F ⟨5, (t : Int), a, i⟩ (nowP F t)) t 4 a i) := by
  unfold touB
  rw [isB_of h1 h2, touF_of F 5 a i h1 h2]
  simp
theorem pk_ne_t {k a i k' a' i' t t' : Int} (h : t ≠ t') : (⟨k, t, a, i⟩ : Pk) ≠ ⟨k', t', a', i'⟩ := fun e => h (congrArg Pk.t e)
theorem pk_ne_k {k a i k' a' i' t t' : Int} (h : k ≠ k') : (⟨k, t, a, i⟩ : Pk) ≠ ⟨k', t', a', i'⟩ := fun e => h (congrArg Pk.k e)
theorem unit_ge (t j : Nat) : 0 ≤ unitC t j := (unit_le t j).1

theorem k4 : (4 : Int) ≠ 0 := by decide
theorem k5 : (5 : Int) ≠ 0 := by decide
/-! ### RaceReads -/
/-- The watch after these reads. -/
structure RdI2 (F : Cm) (S : Nat → Bool) : Prop where
  now : ∀ t, nowP F t = unitC t
  w : ∀ t a i, F ⟨5, t, a, i⟩ = none
  r : ∀ t a i, ¬ (a = 5 ∧ i = 1) → F ⟨4, t, a, i⟩ = none
  s : ∀ t : Nat, F ⟨4, (t : Int), 5, 1⟩ = if S t then some (unitC t) else none
theorem RdI2.begin : RdI2 (fun _ => none) (fun _ => false) := ⟨fun _ => rfl, fun _ _ _ => rfl, fun _ _ _ _ => rfl, fun _ => rfl⟩
theorem RdI2.read {F : Cm} {S : Nat → Bool} (h : RdI2 F S) {t : Nat} (h1 : 1 ≤ t) (h2 : t ≤ 12) :
    touB F ⟨4, (t : Int), 5, 1⟩ = false ∧ RdI2 (touF F ⟨4, (t : Int), 5, 1⟩) (fun u => S u || u == t) := by
  rw [touB_r F 5 1 h1 h2, touF_of F 4 5 1 h1 h2, h.now t]
  constructor
  · refine uno_iff.2 fun u hu1 hu2 hne => ?_
    rw [now_put _ _ k4, h.now, get_ne _ _ (pk_ne_k (by decide)), get_none (h.w _ _ _)]
    exact zero_before (unit_ge t)
  · refine ⟨fun u => by rw [now_put _ _ k4]; exact h.now u, fun u a i => by rw [put_ne _ _ (pk_ne_k (by decide))]; exact h.w _ _ _, fun u a i hn => ?_, fun u => ?_⟩
    · rw [put_ne _ _ (fun e => hn ⟨congrArg Pk.a e, congrArg Pk.i e⟩)]
      exact h.r _ _ _ hn
    · by_cases e : u = t
      · subst e
        rw [put_same]
        simp
      · rw [put_ne _ _ (pk_ne_t (by omega)), h.s u]
        have : (u == t) = false := by simpa using e
        rw [this, Bool.or_false]
theorem unit_not {t u : Nat} (h2 : t ≤ 12) (h : t ≠ u) : beforeB (unitC t) (unitC u) = false := before_no (k := t) (by omega) (by
  show setT zeroC u 1 t < setT zeroC t 1 t
  rw [setT_same, setT_ne _ _ h]
  exact (by decide : (0 : Int) < 1))
/-- One write of the word, then of two other ones. -/
theorem RdI2.write {F : Cm} {S : Nat → Bool} (h : RdI2 F S) {t : Nat} (h1 : 1 ≤ t) (h2 : t ≤ 12) (b : Bool) (hb : b = true ↔ ∃ u, 1 ≤ u ∧ u ≤ 12 ∧ u ≠ t ∧ S u = true) :
    touB F ⟨5, (t : Int), 5, 1⟩ = b ∧ touB (touF F ⟨5, (t : Int), 5, 1⟩) ⟨5, (t : Int), 5, 2⟩ = false ∧ touB (touF (touF F ⟨5, (t : Int), 5, 1⟩) ⟨5, (t : Int), 5, 2⟩) ⟨5, (t : Int), 6, 1⟩ = false := by
  have z := zero_before (unit_ge t)
  have n1 : ∀ q : Pk, q.k ≠ 0 → ∀ G : Cm, nowP G t = unitC t → ∀ c, nowP (putP G q c) t = unitC t := fun q hq G hG c => by rw [now_put _ _ hq]; exact hG
  refine ⟨?_, ?_, ?_⟩
  · rw [touB_w F 5 1 h1 h2, h.now t]
    have h5 : unoB (putP F ⟨5, (t : Int), 5, 1⟩ (unitC t)) t 5 5 1 = false := uno_iff.2 fun u hu1 hu2 hne => by
      rw [n1 _ k5 F (h.now t), get_ne _ _ (pk_ne_t (by omega)), get_none (h.w _ _ _)]
      exact z
    rw [h5, Bool.false_or]
    cases b with
    | true =>
      obtain ⟨u, hu1, hu2, hne, hS⟩ := hb.1 rfl
      refine uno_true hu1 hu2 hne ?_
      rw [n1 _ k5 F (h.now t), get_ne _ _ (pk_ne_k (by decide))]
      unfold getP
      rw [h.s u, hS]
      exact unit_not hu2 hne
    | false =>
      refine uno_iff.2 fun u hu1 hu2 hne => ?_
      rw [n1 _ k5 F (h.now t), get_ne _ _ (pk_ne_k (by decide))]
      unfold getP
      rw [h.s u]
      cases hS : S u with
      | true => exact absurd (hb.2 ⟨u, hu1, hu2, hne, hS⟩) (by decide)
      | false => exact z
  · rw [touF_of F 5 5 1 h1 h2, touB_w _ 5 2 h1 h2, h.now t]
    have hn := n1 ⟨5, (t : Int), 5, 1⟩ k5 F (h.now t) (unitC t)
    rw [hn]
    have hh : ∀ kd, (kd = 5 ∨ kd = 4) → unoB (putP (putP F ⟨5, (t : Int), 5, 1⟩ (unitC t)) ⟨5, (t : Int), 5, 2⟩ (unitC t)) t kd 5 2 = false := fun kd hk => uno_iff.2 fun u hu1 hu2 hne => by
      rw [n1 _ k5 _ hn, get_ne _ _ (pk_ne_t (by omega)), get_ne _ _ (pk_ne_t (by omega)), get_none]
      · exact z
      · rcases hk with rfl | rfl
        · exact h.w _ _ _
        · exact h.r _ _ _ (by omega)
    rw [hh 5 (.inl rfl), hh 4 (.inr rfl)]
    rfl
  · rw [touF_of F 5 5 1 h1 h2, touF_of _ 5 5 2 h1 h2, touB_w _ 6 1 h1 h2, h.now t]
    have hn := n1 ⟨5, (t : Int), 5, 1⟩ k5 F (h.now t) (unitC t)
    rw [hn]
    have hn2 := n1 ⟨5, (t : Int), 5, 2⟩ k5 _ hn (unitC t)
    rw [hn2]
    have hh : ∀ kd, (kd = 5 ∨ kd = 4) → unoB (putP (putP (putP F ⟨5, (t : Int), 5, 1⟩ (unitC t)) ⟨5, (t : Int), 5, 2⟩ (unitC t)) ⟨5, (t : Int), 6, 1⟩ (unitC t)) t kd 6 1 = false := fun kd hk => uno_iff.2 fun u hu1 hu2 hne => by
      rw [n1 _ k5 _ hn2, get_ne _ _ (pk_ne_t (by omega)), get_ne _ _ (pk_ne_t (by omega)), get_ne _ _ (pk_ne_t (by omega)), get_none]
      · exact z
      · rcases hk with rfl | rfl
        · exact h.w _ _ _
        · exact h.r _ _ _ (by omega)
    rw [hh 5 (.inl rfl), hh 4 (.inr rfl)]
    rfl
end Go.Proofs.Ytnineggppoipiaa
