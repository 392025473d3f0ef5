/- Classes and those above them, without memory: places, ways up, ancestors. -/
import Derived.Test.YtabiagheflkiaaaNames
namespace Go.Proofs.Ytabiagheflkiaaa

/-- The first place of s. -/
def ix (s : ByteArray) : List ByteArray → Option Nat
  | [] => none
  | x :: l => if x = s then some 0 else (ix s l).map (· + 1)

theorem ix_snoc (s x : ByteArray) (l : List ByteArray) : ix s (l ++ [x]) = match ix s l with | some i => some i | none => if x = s then some l.length else none := by
  induction l with
  | nil => by_cases h : x = s <;> simp [ix, h]
  | cons y l ih =>
    by_cases h : y = s
    · simp [ix, h]
    · simp only [List.cons_append, ix, if_neg h, ih]
      cases ix s l with
      | some i => rfl
      | none =>
        by_cases hx : x = s <;> simp [hx]

theorem ix_get {s : ByteArray} : ∀ {l : List ByteArray} {i : Nat}, ix s l = some i → l[i]? = some s
  | [], i, h => by simp [ix] at h
  | x :: l, i, h => by
    unfold ix at h
    by_cases hx : x = s
    · rw [if_pos hx] at h
      simp only [Option.some.injEq] at h
      subst h
      simp [hx]
    · rw [if_neg hx] at h
      cases hj : ix s l with
      | none => rw [hj] at h; simp at h
      | some j =>
        rw [hj] at h
        simp only [Option.map_some, Option.some.injEq] at h
        subst h
        simpa using ix_get hj

theorem ix_lt {s : ByteArray} {l : List ByteArray} {i : Nat} (h : ix s l = some i) : i < l.length := (List.getElem?_eq_some_iff.1 (ix_get h)).1

theorem ix_none {s : ByteArray} : ∀ {l : List ByteArray}, ix s l = none ↔ s ∉ l
  | [] => by simp [ix]
  | x :: l => by
    unfold ix
    by_cases hx : x = s
    · simp [hx]
    · rw [if_neg hx, Option.map_eq_none_iff, ix_none (l := l)]
      simp [Ne.symm hx]

theorem ix_some {s : ByteArray} {l : List ByteArray} (h : s ∈ l) : ∃ i, ix s l = some i := by
  cases hi : ix s l with
  | none => exact absurd h (ix_none.1 hi)
  | some i => exact ⟨i, rfl⟩

/-- Whether s is one of l. -/
def inL (s : ByteArray) (l : List ByteArray) : Bool := l.any fun x => decide (x = s)

theorem inL_iff {s : ByteArray} {l : List ByteArray} : inL s l = true ↔ s ∈ l := by
  unfold inL
  rw [List.any_eq_true]
  constructor
  · rintro ⟨x, hx, e⟩
    exact of_decide_eq_true e ▸ hx
  · intro h
    exact ⟨s, h, decide_eq_true rfl⟩

theorem inL_not {s : ByteArray} {l : List ByteArray} : inL s l = false ↔ s ∉ l := by
  rw [← inL_iff]
  simp

theorem ix_isSome (s : ByteArray) (l : List ByteArray) : (ix s l).isSome = inL s l := by
  cases hi : ix s l with
  | none => rw [inL_not.2 (ix_none.1 hi)]; rfl
  | some i => rw [inL_iff.2 (List.mem_of_getElem? (ix_get hi))]; rfl

/-- The first place, as a search finds it: nothing of it ahead. -/
theorem ix_first {s : ByteArray} : ∀ {l : List ByteArray} {k : Nat}, l[k]? = some s → s ∉ l.take k → ix s l = some k
  | [], k, h, _ => by simp at h
  | x :: l, 0, h, _ => by simp at h; simp [ix, h]
  | x :: l, k + 1, h, hn => by
    simp only [List.take_succ_cons, List.mem_cons, not_or] at hn
    unfold ix
    rw [if_neg (Ne.symm hn.1), ix_first (k := k) (by simpa using h) hn.2]
    rfl

theorem ix_nodup {l : List ByteArray} (hn : l.Nodup) {i : Nat} {s : ByteArray} (h : l[i]? = some s) : ix s l = some i := by
  refine ix_first h (fun hm => ?_)
  obtain ⟨j, hj⟩ := List.mem_iff_getElem?.1 hm
  rw [List.getElem?_take] at hj
  split at hj
  · rename_i hlt
    obtain ⟨hi', e1⟩ := List.getElem?_eq_some_iff.1 h
    obtain ⟨hj', e2⟩ := List.getElem?_eq_some_iff.1 hj
    have := (List.getElem_inj hn (h₀ := hj') (h₁ := hi')).1 (e2.trans e1.symm)
    omega
  · simp at hj

/-- The way up from a place, so many at most; whether it came to the top. -/
def up (A : List Nat) : Nat → Nat → List Nat × Bool
  | 0, _ => ([], false)
  | f + 1, i => if i = 0 then ([0], true) else (i :: (up A f (A.getD i 0)).1, (up A f (A.getD i 0)).2)

theorem up_len (A : List Nat) : ∀ f i, (up A f i).1.length ≤ f
  | 0, _ => Nat.le_refl _
  | f + 1, i => by
    unfold up
    split
    · simp
    · simp only [List.length_cons]
      have := up_len A f (A.getD i 0)
      omega

/-- Each place's own one above is a place. -/
def Fine (n : Nat) (A : List Nat) : Prop := A.length = n ∧ ∀ i, A.getD i 0 < n

theorem up_lt {n : Nat} {A : List Nat} (h : Fine n A) : ∀ f i, i < n → ∀ j ∈ (up A f i).1, j < n
  | 0, _, _, j, hj => by simp [up] at hj
  | f + 1, i, hi, j, hj => by
    unfold up at hj
    split at hj
    · simp at hj; omega
    · simp only [List.mem_cons] at hj
      rcases hj with rfl | hj
      · exact hi
      · exact up_lt h f _ (h.2 i) j hj

/-- The names of a class and of all above it. -/
def nameAt (N : List ByteArray) (i : Nat) : ByteArray := N.getD i ByteArray.empty
def anc (N : List ByteArray) (A : List Nat) (s : ByteArray) : List ByteArray :=
  match ix s N with
  | none => []
  | some i => (up A N.length i).1.map (nameAt N)

/-- The first of l that is one of m. -/
def shared (l m : List ByteArray) : ByteArray := (l.find? fun x => inL x m).getD ByteArray.empty

/-- Some way up doesn't come to the top. -/
def ring (n : Nat) (A : List Nat) : Bool := (List.range n).any fun i => !(up A n i).2

theorem streq (s t : ByteArray) : (s.toList == t.toList) = decide (s = t) := by
  by_cases h : s = t
  · subst h; simp
  · rw [decide_eq_false h, ByteArray.toList_eq, ByteArray.toList_eq]
    simp only [beq_eq_false_iff_ne, ne_eq]
    intro e
    exact h (ByteArray.ext (by simpa using congrArg List.toArray e))
end Go.Proofs.Ytabiagheflkiaaa
