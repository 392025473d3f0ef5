/- SchedJoins, pure. -/
import Derived.Test.YtancclmnliiijaaSg
namespace Go.Proofs.Ytancclmnliiijaa

/-- Behind k spawns. -/
def rT (k : Nat) : List (Int × Int) := List.replicate k (1, 0) ++ List.replicate (12 - k) (0, 0)

theorem rT_zero : rT 0 = z12 := rfl
theorem rT_step : ∀ k, k < 12 → spT k (rT k) = rT (k + 1) := by decide
theorem rT_get {k j : Nat} (h : j < k) : (rT k)[j]? = some (1, 0) := by
  unfold rT
  rw [List.getElem?_append_left (by simpa using h), List.getElem?_replicate, if_pos h]

theorem endT_no {n : Nat} {T : List (Int × Int)} {id : Int} (h : stA n T id ≠ 1) : endT n T id = T := by simp [endT, endQ, h]

theorem sel_congr {P Q : Int × Int → Bool} {T U : List (Int × Int)} {k : Nat} (h : ∀ j, j < k → T[j]?.map P = U[j]?.map Q) : sel P T k = sel Q U k := by
  induction k with
  | zero => rfl
  | succ k ih =>
    simp only [sel]
    rw [ih (fun j hj => h j (by omega))]
    congr 1
    have := h k (by omega)
    cases h1 : T[k]? <;> cases h2 : U[k]? <;> simp_all

/-- The rows of SchedJoins ahead of thread i. -/
structure JI (k i : Nat) (T : List (Int × Int)) (l : List Int) : Prop where
  len : T.length = 12
  two : 2 ≤ i
  kk : k ≤ 11
  k2 : 2 ≤ k
  ge : ∀ j, i ≤ j + 1 → j < k → T[j]? = some (1, 0)
  zero : T[0]? = some (1, 0)
  lo : ∀ j, j < k → T[j]? = some (1, 0) ∨ T[j]? = some (4, 1)
  row : l = sel (jn 1) T (i - 1)

section
variable {k i : Nat} {T : List (Int × Int)} {l : List Int}

theorem JI.begin (h2 : 2 ≤ k) (h : k ≤ 11) : JI k 2 (rT k) [] :=
  ⟨by simp [rT]; omega, Nat.le_refl _, h, h2, fun j _ hj => rT_get hj, rT_get (by omega), fun j hj => .inl (rT_get hj), by
    rw [sel_no (rT_get (by omega)) (by decide)]
    rfl⟩

theorem JI.skip (h : JI k i T l) (hi : i < k) : JI k (i + 1) T l :=
  ⟨h.len, by have := h.two; omega, h.kk, h.k2, fun j a b => h.ge j (by omega) b, h.zero, h.lo, by
    obtain ⟨m, rfl⟩ : ∃ m, i = m + 1 := ⟨i - 1, by have := h.two; omega⟩
    have e := h.row
    rw [Nat.add_sub_cancel] at e ⊢
    rw [sel_no (h.ge m (Nat.le_refl _) (by omega)) (by decide)]
    exact e⟩

theorem JI.facts (h : JI k i T l) (hi : i < k) : joinR k T (i : Int) 1 = false ∧ joinE k T (i : Int) 1 = 0 ∧ joinT k T (i : Int) 1 = T.set (i - 1) (4, 1) := by
  obtain ⟨m, rfl⟩ : ∃ m, i = m + 1 := ⟨i - 1, by have := h.two; omega⟩
  have s1 : stA k T ((m : Int) + 1) = 1 := stA_yes (i := m) (by omega) (h.ge m (Nat.le_refl _) (by omega))
  have s0 : stA k T 1 = 1 := stA_yes (i := 0) (by omega) h.zero
  refine ⟨?_, ?_, ?_⟩
  · simp [joinR, joinQ, s0]
  · simp [joinE, joinQ, s1, s0]
  · simp [joinT, joinQ, s1, s0]

theorem JI.turn (h : JI k i T l) (hi : i < k) : JI k (i + 1) (T.set (i - 1) (4, 1)) (l ++ [(i : Int)]) := by
  obtain ⟨m, rfl⟩ : ∃ m, i = m + 1 := ⟨i - 1, by have := h.two; omega⟩
  have ht := h.two
  have hl := h.len
  have hk := h.kk
  rw [Nat.add_sub_cancel]
  have hs : (T.set m (4, 1))[m]? = some (4, 1) := by rw [List.getElem?_set_self (by omega)]
  refine ⟨by simpa using hl, by omega, h.kk, h.k2, fun j a b => ?_, ?_, fun j b => ?_, ?_⟩
  · rw [List.getElem?_set_ne (by omega)]
    exact h.ge j (by omega) b
  · rw [List.getElem?_set_ne (by omega)]
    exact h.zero
  · by_cases e : m = j
    · subst e
      exact .inr hs
    · rw [List.getElem?_set_ne e]
      exact h.lo j b
  · rw [Nat.add_sub_cancel, sel_yes hs (by decide)]
    have e := h.row
    rw [Nat.add_sub_cancel] at e
    rw [e, sel_congr (P := jn 1) (Q := jn 1) (T := T.set m (4, 1)) (U := T) (k := m) (fun j hj => by rw [List.getElem?_set_ne (by omega)])]
    rfl

theorem JI.after (h : JI k i T l) (hi : i < k) : stA k (T.set (i - 1) (4, 1)) (i : Int) = 4 ∧ setE k (T.set (i - 1) (4, 1)) (i : Int) 1 = 140 ∧ setT k (T.set (i - 1) (4, 1)) (i : Int) 1 = T.set (i - 1) (4, 1) := by
  obtain ⟨m, rfl⟩ : ∃ m, i = m + 1 := ⟨i - 1, by have := h.two; omega⟩
  have hl := h.len
  have hk := h.kk
  rw [Nat.add_sub_cancel]
  have s1 : stA k (T.set m (4, 1)) ((m : Int) + 1) = 4 := stA_yes (i := m) (x := (4, 1)) (by omega) (by rw [List.getElem?_set_self (by omega)])
  refine ⟨by simpa using s1, ?_, ?_⟩
  · simp [setE, setQ, s1, sbl]
  · simp [setT, setQ, s1, sbl]

theorem JI.fin (h : JI k k T l) : endE k T 1 = 0 ∧ endL k T 1 = l ∧ joinR k (endT k T 1) (k : Int) 1 = true ∧ joinE k (endT k T 1) (k : Int) 1 = 0 ∧ joinT k (endT k T 1) (k : Int) 1 = endT k T 1 ∧
    endE k (endT k T 1) 1 = 140 ∧ endT k (endT k T 1) 1 = endT k T 1 ∧ (sel rdy (endT k T 1) k).length + 1 = k := by
  have ht := h.two
  have hl := h.len
  have hk := h.kk
  have s0 : stA k T 1 = 1 := stA_yes (i := 0) (by omega) h.zero
  have hp : plc T 1 = (1, 0) := plc_eq (i := 0) h.zero
  have e1 : endT k T 1 = upto (fre 1) k (T.set 0 (5, 0)) := by simp [endT, endQ, end1, s0, hp]
  have e2 : endL k T 1 = sel (jn 1) (T.set 0 (5, 0)) k := by simp [endL, endQ, end1, s0, hp]
  have g0 : (endT k T 1)[0]? = some (5, 0) := by
    rw [e1, upto_low (by omega), List.getElem?_set_self (by omega)]
    rfl
  have gj : ∀ j, 0 < j → j < k → (endT k T 1)[j]? = some (1, 0) := fun j h0 hj => by
    rw [e1, upto_low hj, List.getElem?_set_ne (by omega)]
    rcases h.lo j hj with e | e <;> rw [e] <;> rfl
  have t0 : stA k (endT k T 1) 1 = 5 := stA_yes (i := 0) (by omega) g0
  have tk : stA k (endT k T 1) (k : Int) = 1 := by
    obtain ⟨m, rfl⟩ : ∃ m, k = m + 1 := ⟨k - 1, by omega⟩
    exact stA_yes (i := m) (by omega) (gj m (by omega) (by omega))
  refine ⟨by simp [endE, endQ, s0], ?_, by simp [joinR, joinQ, t0, tk], by simp [joinE, joinQ, t0, tk], by simp [joinT, joinQ, t0, tk], by simp [endE, endQ, t0], endT_no (by rw [t0]; decide), ?_⟩
  · rw [e2, h.row]
    obtain ⟨m, rfl⟩ : ∃ m, k = m + 1 := ⟨k - 1, by omega⟩
    rw [Nat.add_sub_cancel, sel_no (x := (1, 0)) (by rw [List.getElem?_set_ne (by omega)]; exact h.ge m (Nat.le_refl _) (by omega)) (by decide)]
    refine sel_congr fun j hj => ?_
    by_cases e : j = 0
    · subst e
      rw [List.getElem?_set_self (by omega), h.zero]
      rfl
    · rw [List.getElem?_set_ne (by omega)]
  · have : ∀ m, m + 1 ≤ k → (sel rdy (endT k T 1) (m + 1)).length = m := by
      intro m
      induction m with
      | zero =>
        intro _
        rw [sel_no g0 (by decide)]
        rfl
      | succ m ih =>
        intro hm
        rw [sel_yes (gj (m + 1) (by omega) (by omega)) (by decide), List.length_append, ih (by omega)]
        rfl
    obtain ⟨m, rfl⟩ : ∃ m, k = m + 1 := ⟨k - 1, by omega⟩
    rw [this m (Nat.le_refl _)]
end
end Go.Proofs.Ytancclmnliiijaa
