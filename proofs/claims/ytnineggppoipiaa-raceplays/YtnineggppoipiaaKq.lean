/- The program's watch: what the law RaceLocked needs of its clocks, without memory. -/
import Derived.Test.YtnineggppoipiaaKp
namespace Go.Proofs.Ytnineggppoipiaa

abbrev lck : Pk := ⟨2, 0, 9, 0⟩
theorem before_join_r {a b : Nat → Int} : ∀ j, b j ≤ joinC a b j := fun j => by unfold joinC; omega
theorem before_join_l {a b : Nat → Int} : ∀ j, a j ≤ joinC a b j := fun j => by unfold joinC; omega

/-- The watch while threads 1 to 6 use one word under one lock; wr: who wrote last, or 0. -/
structure LkI (F : Cm) (wr : Nat) : Prop where
  /-- All that was done is known to the lock. -/
  acc : ∀ kd (t : Nat), kd = 4 ∨ kd = 5 → ∀ j, getP F ⟨kd, (t : Int), 3, 1⟩ j ≤ getP F lck j
  own : ∀ t : Nat, 1 ≤ nowP F t t
  far : ∀ t : Nat, 7 ≤ t → F (th t) = none
  lk0 : ∀ j, 7 ≤ j → getP F lck j = 0
  no0 : ∀ t : Nat, t ≤ 6 → ∀ j, 7 ≤ j → nowP F t j = 0
  wrt : wr ≠ 0 → 1 ≤ wr ∧ wr ≤ 6 ∧ 1 ≤ getP F ⟨5, (wr : Int), 3, 1⟩ wr
  nn : BP F 1000000
theorem LkI.begin : LkI (fun _ => none) 0 := by
  refine ⟨fun _ _ _ _ => Int.le_refl _, fun t => ?_, fun _ _ => rfl, fun _ _ => rfl, fun t ht j hj => ?_, fun h => absurd rfl h, fun _ _ h => by simp at h⟩
  · show 1 ≤ setT zeroC t 1 t
    rw [setT_same]
    decide
  · show setT zeroC t 1 j = 0
    rw [setT_ne _ _ (by omega)]
    rfl

/-- One turn: the lock is taken, the word is used, the lock is given. -/
def turnF (F : Cm) (kd : Int) (t : Nat) : Cm := relP (touF (acqP F t lck) ⟨kd, t, 3, 1⟩) t lck
theorem acq_of (F : Cm) {t : Nat} (h1 : 1 ≤ t) (h2 : t ≤ 12) (q : Pk) : acqP F (t : Int) q = putP F (th t) (joinC (nowP F t) (getP F q)) := by
  unfold acqP
  rw [isB_of h1 h2]
  rfl
theorem rel_of (F : Cm) {t : Nat} (h1 : 1 ≤ t) (h2 : t ≤ 12) (q : Pk) (hq : q.k ≠ 0) : relP F (t : Int) q = putP (putP F q (joinC (getP F q) (nowP F t))) (th t) (tickC (nowP F t) t) := by
  unfold relP
  rw [isB_of h1 h2]
  show putP (putP F q (joinC (getP F q) (nowP F t))) (th t) (tickC (nowP (putP F q (joinC (getP F q) (nowP F t))) t) t) = _
  rw [now_put _ _ hq]
theorem th_ne {t : Nat} {k a i u : Int} (h : k ≠ 0) : (⟨k, u, a, i⟩ : Pk) ≠ th t := fun e => h (congrArg Pk.k e)
theorem now_nn {F : Cm} (h : BP F 1000000) (t j : Nat) : 0 ≤ nowP F t j := (h.now (by decide) t j).1
theorem get_nn {F : Cm} (h : BP F 1000000) (q : Pk) (j : Nat) : 0 ≤ getP F q j := (h.get (by decide) q j).1

/-- After the lock is taken the word may be used. -/
theorem LkI.use {F : Cm} {wr : Nat} (h : LkI F wr) {t : Nat} (h1 : 1 ≤ t) (h6 : t ≤ 6) (kd : Int) (hkd : kd = 4 ∨ kd = 5) : touB (acqP F t lck) ⟨kd, (t : Int), 3, 1⟩ = false := by
  rw [acq_of F h1 (by omega)]
  have hn : nowP (putP F (th t) (joinC (nowP F t) (getP F lck))) t = joinC (nowP F t) (getP F lck) := now_same _ _ _
  have key : ∀ k2, (k2 = 4 ∨ k2 = 5) → unoB (putP (putP F (th t) (joinC (nowP F t) (getP F lck))) ⟨kd, (t : Int), 3, 1⟩ (joinC (nowP F t) (getP F lck))) t k2 3 1 = false := fun k2 hk2 => uno_iff.2 fun u hu1 hu2 hne => by
    rw [now_put _ _ (by rcases hkd with rfl | rfl <;> simp), hn, get_ne _ _ (pk_ne_t (by omega)), get_ne _ _ (th_ne (by rcases hk2 with rfl | rfl <;> simp))]
    refine before_yes fun j _ => ?_
    have := h.acc k2 u hk2 j
    have := before_join_r (a := nowP F t) (b := getP F lck) j
    omega
  rcases hkd with rfl | rfl
  · rw [touB_r _ 3 1 h1 (by omega), hn]
    exact key 5 (.inr rfl)
  · rw [touB_w _ 3 1 h1 (by omega), hn, key 5 (.inr rfl), key 4 (.inl rfl)]
    rfl

theorem LkI.turn {F : Cm} {wr : Nat} (h : LkI F wr) {t : Nat} (h1 : 1 ≤ t) (h6 : t ≤ 6) (kd : Int) (hkd : kd = 4 ∨ kd = 5) (hB : BP (turnF F kd t) 1000000) :
    LkI (turnF F kd t) (if kd = 5 then t else wr) := by
  have hk0 : kd ≠ 0 := by rcases hkd with rfl | rfl <;> simp
  have hk2 : kd ≠ 2 := by rcases hkd with rfl | rfl <;> simp
  have e : turnF F kd t = putP (putP (putP (putP F (th t) (joinC (nowP F t) (getP F lck))) ⟨kd, (t : Int), 3, 1⟩ (joinC (nowP F t) (getP F lck))) lck (joinC (getP F lck) (joinC (nowP F t) (getP F lck)))) (th t) (tickC (joinC (nowP F t) (getP F lck)) t) := by
    unfold turnF
    rw [acq_of F h1 (by omega), touF_of _ kd 3 1 h1 (by omega), rel_of _ h1 (by omega) lck (by decide), now_same, now_put _ _ hk0, now_same, get_ne _ _ (show lck ≠ ⟨kd, (t : Int), 3, 1⟩ from pk_ne_k (Ne.symm hk2)), get_ne _ _ (th_ne (by decide))]
  have hC : ∀ j, 0 ≤ nowP F t j := now_nn h.nn t
  have hL : ∀ j, 0 ≤ getP F lck j := get_nn h.nn lck
  generalize hc : joinC (nowP F t) (getP F lck) = c at *
  have c1 : ∀ j, nowP F t j ≤ c j := fun j => by rw [← hc]; exact before_join_l j
  have c2 : ∀ j, getP F lck j ≤ c j := fun j => by rw [← hc]; exact before_join_r j
  have c7 : ∀ j, 7 ≤ j → c j = 0 := fun j hj => by
    rw [← hc]
    have e1 := h.no0 t h6 j hj
    have e2 := h.lk0 j hj
    unfold joinC
    omega
  have hlck : getP (turnF F kd t) lck = joinC (getP F lck) c := by rw [e, get_ne _ _ (th_ne (by decide)), get_same]
  have hnow : ∀ u, nowP (turnF F kd t) u = if u = t then tickC c t else nowP F u := fun u => by
    rw [e]
    by_cases hu : u = t
    · subst hu
      rw [now_same, if_pos rfl]
    · rw [now_ne _ _ hu, now_put _ _ (by decide), now_put _ _ hk0, now_ne _ _ hu, if_neg hu]
  have hacc : ∀ k2 (u : Nat), (k2 = 4 ∨ k2 = 5) → getP (turnF F kd t) ⟨k2, (u : Int), 3, 1⟩ = if k2 = kd ∧ u = t then c else getP F ⟨k2, (u : Int), 3, 1⟩ := fun k2 u hk => by
    have z0 : k2 ≠ 0 := by rcases hk with rfl | rfl <;> simp
    have z2 : k2 ≠ 2 := by rcases hk with rfl | rfl <;> simp
    rw [e, get_ne _ _ (th_ne z0), get_ne _ _ (show (⟨k2, (u : Int), 3, 1⟩ : Pk) ≠ lck from pk_ne_k z2)]
    by_cases hh : k2 = kd ∧ u = t
    · rw [if_pos hh, hh.1, hh.2, get_same]
    · rw [if_neg hh, get_ne _ _ (fun e => hh ⟨congrArg Pk.k e, by have := congrArg Pk.t e; simp at this; omega⟩), get_ne _ _ (th_ne z0)]
  refine ⟨fun k2 u hk j => ?_, fun u => ?_, fun u hu => ?_, fun j hj => ?_, fun u hu j hj => ?_, fun hw => ?_, hB⟩
  · rw [hacc k2 u hk, hlck]
    have b1 := before_join_l (a := getP F lck) (b := c) j
    have b2 := before_join_r (a := getP F lck) (b := c) j
    split
    · exact b2
    · have := h.acc k2 u hk j
      omega
  · rw [hnow u]
    have := h.own u
    split
    · rename_i hu
      subst hu
      show 1 ≤ setT c u (c u + 1) u
      rw [setT_same]
      have := c1 u
      omega
    · exact this
  · have hu2 : u ≠ t := by omega
    rw [e, put_ne _ _ (fun e => hu2 (by have := congrArg Pk.t e; simp [th] at this; omega)), put_ne _ _ (Ne.symm (th_ne (by decide))), put_ne _ _ (Ne.symm (th_ne hk0)), put_ne _ _ (fun e => hu2 (by have := congrArg Pk.t e; simp [th] at this; omega))]
    exact h.far u hu
  · rw [hlck]
    have e1 := h.lk0 j hj
    have e2 := c7 j hj
    unfold joinC
    omega
  · rw [hnow u]
    split
    · show setT c t (c t + 1) j = 0
      rw [setT_ne _ _ (by omega)]
      exact c7 j hj
    · exact h.no0 u hu j hj
  · by_cases hk5 : kd = 5
    · rw [if_pos hk5]
      refine ⟨h1, h6, ?_⟩
      rw [hacc 5 t (.inr rfl), if_pos ⟨hk5.symm, rfl⟩]
      have := h.own t
      have := c1 t
      omega
    · rw [if_neg hk5] at hw ⊢
      obtain ⟨w1, w2, w3⟩ := h.wrt hw
      refine ⟨w1, w2, ?_⟩
      rw [hacc 5 wr (.inr rfl), if_neg (fun x => hk5 x.1.symm)]
      exact w3

/-- One that never took the lock writes. -/
theorem LkI.race {F : Cm} {wr : Nat} (h : LkI F wr) (hw : wr ≠ 0) {t : Nat} (h7 : 7 ≤ t) (h12 : t ≤ 12) : touB F ⟨5, (t : Int), 3, 1⟩ = true := by
  obtain ⟨w1, w2, w3⟩ := h.wrt hw
  have hn : nowP F t = unitC t := by unfold nowP; rw [h.far t h7]; rfl
  rw [touB_w F 3 1 (by omega) h12, hn]
  have : unoB (putP F ⟨5, (t : Int), 3, 1⟩ (unitC t)) t 5 3 1 = true := by
    refine uno_true w1 (by omega) (by omega : wr ≠ t) ?_
    rw [now_put _ _ k5, hn, get_ne _ _ (pk_ne_t (by omega))]
    refine before_no (k := wr) (by omega) ?_
    show setT zeroC t 1 wr < _
    rw [setT_ne _ _ (by omega)]
    show (0 : Int) < _
    omega
  rw [this]
  rfl
end Go.Proofs.Ytnineggppoipiaa
