/- Ways up that come to the top do so early; those above, by their texts and by their places. -/
import Derived.Test.YtabiagheflkiaaaDNew0
namespace Go.Proofs.Ytabiagheflkiaaa

theorem pigeon : ∀ (n : Nat) (f : Nat → Nat), (∀ j, j ≤ n → f j < n) → ∃ a b, a < b ∧ b ≤ n ∧ f a = f b
  | 0, f, h => absurd (h 0 (Nat.le_refl _)) (by omega)
  | n + 1, f, h => by
    by_cases hx : ∃ j, j ≤ n ∧ f j = f (n + 1)
    · obtain ⟨j, hj, e⟩ := hx
      exact ⟨j, n + 1, by omega, Nat.le_refl _, e⟩
    · have hx' : ∀ j, j ≤ n → f j ≠ f (n + 1) := fun j hj e => hx ⟨j, hj, e⟩
      obtain ⟨a, b, hab, hb, e⟩ := pigeon n (fun j => if f j = n then f (n + 1) else f j) (fun j hj => by
        have h1 := h j (by omega)
        have h2 := h (n + 1) (Nat.le_refl _)
        have h3 := hx' j hj
        split <;> omega)
      have ha := hx' a (by omega)
      have hb' := hx' b hb
      refine ⟨a, b, hab, by omega, ?_⟩
      split at e <;> split at e <;> omega

/-- So many steps up. -/
def it (A : List Nat) : Nat → Nat → Nat
  | 0, i => i
  | m + 1, i => A.getD (it A m i) 0

theorem it_next (A : List Nat) : ∀ m i, it A (m + 1) i = it A m (A.getD i 0)
  | 0, i => rfl
  | m + 1, i => by show A.getD (it A (m + 1) i) 0 = A.getD (it A m (A.getD i 0)) 0; rw [it_next A m i]

theorem it_add (A : List Nat) (i : Nat) : ∀ a b, it A (a + b) i = it A b (it A a i)
  | a, 0 => rfl
  | a, b + 1 => by show A.getD (it A (a + b) i) 0 = A.getD (it A b (it A a i)) 0; rw [it_add A i a b]

theorem it_zero {A : List Nat} (h0 : A.getD 0 0 = 0) : ∀ m, it A m 0 = 0
  | 0 => rfl
  | m + 1 => by show A.getD (it A m 0) 0 = 0; rw [it_zero h0 m, h0]

theorem it_mono {A : List Nat} (h0 : A.getD 0 0 = 0) {m m' i : Nat} (h : it A m i = 0) (hm : m ≤ m') : it A m' i = 0 := by
  obtain ⟨d, rfl⟩ := Nat.le.dest hm
  rw [it_add, h, it_zero h0]

theorem it_lt {n : Nat} {A : List Nat} (h : Fine n A) {i : Nat} (hi : i < n) : ∀ m, it A m i < n
  | 0 => hi
  | _ + 1 => h.2 _

theorem up_iff (A : List Nat) : ∀ f i, (up A f i).2 = true ↔ ∃ m, m < f ∧ it A m i = 0
  | 0, i => by simp [up]
  | f + 1, i => by
    unfold up
    by_cases hi : i = 0
    · rw [if_pos hi]
      exact ⟨fun _ => ⟨0, by omega, hi⟩, fun _ => rfl⟩
    · rw [if_neg hi]
      show (up A f (A.getD i 0)).2 = true ↔ _
      rw [up_iff A f (A.getD i 0)]
      constructor
      · rintro ⟨m, hm, e⟩
        exact ⟨m + 1, by omega, by rw [it_next]; exact e⟩
      · rintro ⟨m, hm, e⟩
        cases m with
        | zero => exact absurd e hi
        | succ m => exact ⟨m, by omega, by rw [← it_next]; exact e⟩

/-- Whoever comes to the top does so in fewer steps than there are classes. -/
theorem it_early {n : Nat} {A : List Nat} (h : Fine n A) (i : Nat) (hi : i < n) : ∀ m, it A m i = 0 → ∃ k, k < n ∧ it A k i = 0 := by
  intro m
  induction m using Nat.strongRecOn with
  | _ m ih =>
    intro e
    by_cases hm : m < n
    · exact ⟨m, hm, e⟩
    · obtain ⟨a, b, hab, hb, eab⟩ := pigeon n (fun j => it A j i) (fun j _ => it_lt h hi j)
      refine ih (a + (m - b)) (by omega) ?_
      rw [it_add, eab, ← it_add, show b + (m - b) = m by omega, e]

theorem up_of_it {n : Nat} {A : List Nat} (h : Fine n A) {i m : Nat} (hi : i < n) (e : it A m i = 0) : (up A n i).2 = true := (up_iff A n i).2 (it_early h i hi m e)

theorem up_not {n : Nat} {A : List Nat} (h0 : A.getD 0 0 = 0) {i : Nat} (e : it A (n + 1) i ≠ 0) : (up A n i).2 = false := by
  cases hu : (up A n i).2 with
  | false => rfl
  | true =>
    obtain ⟨m, hm, e2⟩ := (up_iff A n i).1 hu
    exact absurd (it_mono h0 e2 (by omega)) e

theorem addN_pre : ∀ (l N : List ByteArray), ∃ t, (addN N l).2 = N ++ t
  | [], N => ⟨[], by simp [addN]⟩
  | x :: l, N => by
    unfold addN
    split
    · exact ⟨[], by simp⟩
    · split
      · exact ⟨[], by simp⟩
      · obtain ⟨t, ht⟩ := addN_pre l (N ++ [x])
        exact ⟨[x] ++ t, by rw [ht]; simp⟩

theorem addS_pre {N : List ByteArray} : ∀ (l : List ByteArray) (A : List Nat), ∃ t, (addS N A l).2 = A ++ t
  | [], A => ⟨[], by simp [addS]⟩
  | x :: l, A => by
    unfold addS
    cases ix (supOf x) N with
    | none => exact ⟨[], by simp⟩
    | some i =>
      obtain ⟨t, ht⟩ := addS_pre l (A ++ [i])
      exact ⟨[i] ++ t, by simp only []; rw [ht]; simp⟩

theorem addS_ok {N : List ByteArray} : ∀ (l : List ByteArray) (A : List Nat), (∀ y ∈ l, ix (supOf y) N ≠ none) → (addS N A l).1 = 0
  | [], A, _ => rfl
  | x :: l, A, h => by
    unfold addS
    cases hi : ix (supOf x) N with
    | none => exact absurd hi (h x (by simp))
    | some i => exact addS_ok l (A ++ [i]) (fun y hy => h y (by simp [hy]))

theorem addS_no {N : List ByteArray} : ∀ (l : List ByteArray) (A : List Nat), (∃ y ∈ l, ix (supOf y) N = none) → (addS N A l).1 = 70
  | [], A, h => by obtain ⟨y, hy, _⟩ := h; simp at hy
  | x :: l, A, h => by
    unfold addS
    cases hi : ix (supOf x) N with
    | none => rfl
    | some i =>
      refine addS_no l (A ++ [i]) ?_
      obtain ⟨y, hy, e⟩ := h
      rcases List.mem_cons.1 hy with rfl | hy
      · rw [hi] at e; simp at e
      · exact ⟨y, hy, e⟩

theorem addS_get {N : List ByteArray} : ∀ (l : List ByteArray) (A : List Nat), (addS N A l).1 = 0 → ∀ (k : Nat) (y : ByteArray), l[k]? = some y → ix (supOf y) N = some ((addS N A l).2.getD (A.length + k) 0)
  | [], A, _, k, y, hk => by simp at hk
  | x :: l, A, h, k, y, hk => by
    unfold addS at h ⊢
    cases hi : ix (supOf x) N with
    | none => rw [hi] at h; simp at h
    | some i =>
      rw [hi] at h
      simp only [] at h ⊢
      cases k with
      | zero =>
        simp at hk
        subst hk
        obtain ⟨t, ht⟩ := addS_pre (N := N) l (A ++ [i])
        rw [ht, hi, List.getD_eq_getElem?_getD]
        simp
      | succ k =>
        have := addS_get l (A ++ [i]) h k y (by simpa using hk)
        rw [this]
        have e : (A ++ [i]).length + k = A.length + (k + 1) := by simp; omega
        rw [e]

theorem supS_get (supers : List ByteArray) (k : Nat) (y : ByteArray) (h : supers[k]? = some y) : (supS supers).getD (k + 2) ByteArray.empty = supOf y := by
  unfold supS
  rw [List.getD_eq_getElem?_getD, List.getElem?_append_right (by simp)]
  simp [h]

/-- The texts of those above stand for their places. -/
theorem ra_of {names supers : List ByteArray} (hl : names.length = supers.length) (h1 : (addN [obj, fault] names).1 = 0) (h2 : (addS (addN [obj, fault] names).2 [0, 0] supers).1 = 0) :
    RA (addN [obj, fault] names).2 (supS supers) (addS (addN [obj, fault] names).2 [0, 0] supers).2 := by
  have e1 := addN_len names [obj, fault] h1
  obtain ⟨t, ht⟩ := addN_pre names [obj, fault]
  obtain ⟨u, hu⟩ := addS_pre (N := (addN [obj, fault] names).2) supers [0, 0]
  refine ⟨by rw [e1]; unfold supS; simp; omega, fun i hi1 hin => ?_⟩
  match i, hi1 with
  | 1, _ =>
    have ea : (supS supers).getD 1 ByteArray.empty = obj := rfl
    rw [ea, hu, ht]
    simp [ix]
  | k + 2, _ =>
    rw [e1] at hin
    simp only [List.length_cons, List.length_nil] at hin
    obtain ⟨y, hy⟩ : ∃ y, supers[k]? = some y := ⟨_, List.getElem?_eq_getElem (by omega)⟩
    rw [supS_get supers k y hy, addS_get supers [0, 0] h2 k y hy]
    congr 2
    simp
    omega

theorem zero_of (N supers : List ByteArray) : (addS N [0, 0] supers).2.getD 0 0 = 0 := by
  obtain ⟨u, hu⟩ := addS_pre (N := N) supers [0, 0]
  rw [hu]
  rfl
end Go.Proofs.Ytabiagheflkiaaa
