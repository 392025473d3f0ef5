/- Ancestors are an order: what is above, what two have in common. -/
import Derived.Test.YtabiagheflkiaaaPig
import Derived.Test.YtabiagheflkiaaaMerge
namespace Go.Proofs.Ytabiagheflkiaaa

/-- Classes without a ring. -/
structure Tree (N : List ByteArray) (A : List Nat) : Prop where
  fine : Fine N.length A
  nodup : N.Nodup
  ends : ∀ i, i < N.length → (up A N.length i).2 = true

theorem up_more (A : List Nat) : ∀ f i, (up A f i).2 = true → up A (f + 1) i = up A f i
  | 0, i, h => by simp [up] at h
  | f + 1, i, h => by
    by_cases hi : i = 0
    · simp [up, hi]
    · have h' : (up A f (A.getD i 0)).2 = true := by simpa [up, hi] using h
      have := up_more A f (A.getD i 0) h'
      rw [up, if_neg hi, this]
      conv => rhs; rw [up, if_neg hi]

/-- The ways up. -/
def U (N : List ByteArray) (A : List Nat) (i : Nat) : List Nat := (up A N.length i).1

theorem U_zero {N : List ByteArray} {A : List Nat} (h0 : 0 < N.length) : U N A 0 = [0] := by
  unfold U
  obtain ⟨f, hf⟩ : ∃ f, N.length = f + 1 := ⟨N.length - 1, by omega⟩
  rw [hf, up, if_pos rfl]

theorem name_get {N : List ByteArray} {i : Nat} (hi : i < N.length) : N[i]? = some (nameAt N i) := by unfold nameAt; rw [List.getD_eq_getElem?_getD, List.getElem?_eq_getElem hi]; rfl

theorem in_N {N : List ByteArray} {x : ByteArray} (hx : x ∈ N) : ∃ i, i < N.length ∧ x = nameAt N i := by
  obtain ⟨i, hi⟩ := List.mem_iff_getElem?.1 hx
  have hl := (List.getElem?_eq_some_iff.1 hi).1
  refine ⟨i, hl, ?_⟩
  have := name_get hl
  rw [hi] at this
  simpa using this

section
variable {N : List ByteArray} {A : List Nat} (h : Tree N A)
include h

theorem U_cons {i : Nat} (hi : i < N.length) (h0 : i ≠ 0) : U N A i = i :: U N A (A.getD i 0) := by
  unfold U
  obtain ⟨f, hf⟩ : ∃ f, N.length = f + 1 := ⟨N.length - 1, by omega⟩
  have he := h.ends i hi
  rw [hf] at he ⊢
  have he' : (up A f (A.getD i 0)).2 = true := by simpa [up, h0] using he
  rw [up, if_neg h0, up_more A f _ he']

theorem U_lt {i j : Nat} (hi : i < N.length) (hj : j ∈ U N A i) : j < N.length := up_lt h.fine _ i hi j hj

theorem U_self {i : Nat} (hi : i < N.length) : i ∈ U N A i := by
  by_cases h0 : i = 0
  · subst h0; rw [U_zero hi]; simp
  · rw [U_cons h hi h0]; simp

/-- The way up from one that is met is the rest of the way. -/
theorem U_suffix : ∀ (n i : Nat), (U N A i).length = n → i < N.length → ∀ j, j ∈ U N A i → U N A j <:+ U N A i := by
  intro n
  induction n with
  | zero =>
    intro i hl hi j hj
    have := U_self h hi
    rw [List.eq_nil_of_length_eq_zero hl] at this
    simp at this
  | succ n ih =>
    intro i hl hi j hj
    by_cases h0 : i = 0
    · subst h0
      rw [U_zero hi] at hj
      simp at hj
      subst hj
      exact List.suffix_refl _
    · rw [U_cons h hi h0] at hj hl ⊢
      rcases List.mem_cons.1 hj with rfl | hj
      · rw [U_cons h hi h0]; exact List.suffix_refl _
      · exact (ih (A.getD i 0) (by simpa using hl) (h.fine.2 i) j hj).trans (List.suffix_cons _ _)

theorem U_suf {i j : Nat} (hi : i < N.length) (hj : j ∈ U N A i) : U N A j <:+ U N A i := U_suffix h _ i rfl hi j hj

theorem U_trans {i j k : Nat} (hi : i < N.length) (hj : j ∈ U N A i) (hk : k ∈ U N A j) : k ∈ U N A i := (U_suf h hi hj).subset hk

theorem U_head {i : Nat} (hi : i < N.length) : (U N A i).head? = some i := by
  by_cases h0 : i = 0
  · subst h0; rw [U_zero hi]; rfl
  · rw [U_cons h hi h0]; rfl

theorem U_anti {i j : Nat} (hi : i < N.length) (hj : j ∈ U N A i) (hi' : i ∈ U N A j) : i = j := by
  have hjn := U_lt h hi hj
  have s1 := U_suf h hi hj
  have s2 := U_suf h hjn hi'
  have e : U N A j = U N A i := s1.eq_of_length (Nat.le_antisymm s1.length_le s2.length_le)
  have h1 := U_head h hi
  have h2 := U_head h hjn
  rw [e, h1] at h2
  simpa using h2

theorem U_top {i : Nat} (hi : i < N.length) : 0 ∈ U N A i := by
  have : ∀ (n i : Nat), (U N A i).length = n → i < N.length → 0 ∈ U N A i := by
    intro n
    induction n with
    | zero =>
      intro i hl hi
      have := U_self h hi
      rw [List.eq_nil_of_length_eq_zero hl] at this
      simp at this
    | succ n ih =>
      intro i hl hi
      by_cases h0 : i = 0
      · subst h0; exact U_self h hi
      · rw [U_cons h hi h0] at hl ⊢
        exact List.mem_cons_of_mem _ (ih _ (by simpa using hl) (h.fine.2 i))
  exact this _ i rfl hi

/-- Behind the first common one all others that are common lie. -/
theorem U_first {i : Nat} (hi : i < N.length) {k c : Nat} (hc : (U N A i)[k]? = some c) {y : Nat} (hy : y ∈ U N A i) (hn : y ∉ (U N A i).take k) : y ∈ U N A c := by
  obtain ⟨t, ht⟩ := U_suf h hi (List.mem_of_getElem? hc)
  have hcn := U_lt h hi (List.mem_of_getElem? hc)
  -- the place of c in the way up is the suffix's own beginning
  have hck : (U N A i).drop k = c :: (U N A i).drop (k + 1) := by
    obtain ⟨hk', e⟩ := List.getElem?_eq_some_iff.1 hc
    rw [← e, List.getElem_cons_drop hk']
  have hyd : y ∈ (U N A i).drop k := by
    have := List.take_append_drop k (U N A i)
    rw [← this, List.mem_append] at hy
    exact hy.resolve_left hn
  -- the way from c is the drop
  have hd : ∀ (n i : Nat), (U N A i).length = n → i < N.length → ∀ k c, (U N A i)[k]? = some c → (U N A i).drop k = U N A c := by
    intro n
    induction n with
    | zero =>
      intro i hl hi k c hc
      rw [List.eq_nil_of_length_eq_zero hl] at hc
      simp at hc
    | succ n ih =>
      intro i hl hi k c hc
      cases k with
      | zero =>
        have := U_head h hi
        rw [List.head?_eq_getElem?] at this
        rw [this] at hc
        simp at hc
        subst hc
        rfl
      | succ k =>
        by_cases h0 : i = 0
        · subst h0; rw [U_zero hi] at hc; simp at hc
        · rw [U_cons h hi h0] at hc hl ⊢
          simp only [List.drop_succ_cons]
          exact ih _ (by simpa using hl) (h.fine.2 i) k c (by simpa using hc)
  rw [hd _ i rfl hi k c hc] at hyd
  exact hyd
end

/-! ### By names -/
section
variable {N : List ByteArray} {A : List Nat} (h : Tree N A)
include h

theorem name_inj {i j : Nat} (hi : i < N.length) (hj : j < N.length) (e : nameAt N i = nameAt N j) : i = j := by
  have h1 := ix_nodup h.nodup (name_get hi)
  have h2 := ix_nodup h.nodup (name_get hj)
  rw [e, h2] at h1
  simpa using h1.symm

theorem anc_of {i : Nat} (hi : i < N.length) : anc N A (nameAt N i) = (U N A i).map (nameAt N) := by
  unfold anc
  rw [ix_nodup h.nodup (name_get hi)]
  rfl

theorem anc_mem {i j : Nat} (hi : i < N.length) (hj : j < N.length) : nameAt N j ∈ anc N A (nameAt N i) ↔ j ∈ U N A i := by
  rw [anc_of h hi, List.mem_map]
  constructor
  · rintro ⟨k, hk, e⟩
    have := name_inj h (U_lt h hi hk) hj e
    exact this ▸ hk
  · exact fun hk => ⟨j, hk, rfl⟩

theorem anc_sub {x y : ByteArray} (hx : x ∈ N) (hy : y ∈ anc N A x) : y ∈ N := by
  obtain ⟨i, hi, rfl⟩ := in_N hx
  rw [anc_of h hi, List.mem_map] at hy
  obtain ⟨k, hk, rfl⟩ := hy
  exact List.mem_of_getElem? (name_get (U_lt h hi hk))

theorem anc_refl {x : ByteArray} (hx : x ∈ N) : x ∈ anc N A x := by
  obtain ⟨i, hi, rfl⟩ := in_N hx
  exact (anc_mem h hi hi).2 (U_self h hi)

theorem anc_trans {x y z : ByteArray} (hx : x ∈ N) (hy : y ∈ anc N A x) (hz : z ∈ anc N A y) : z ∈ anc N A x := by
  have hyN := anc_sub h hx hy
  have hzN := anc_sub h hyN hz
  obtain ⟨i, hi, rfl⟩ := in_N hx
  obtain ⟨j, hj, rfl⟩ := in_N hyN
  obtain ⟨k, hk, rfl⟩ := in_N hzN
  exact (anc_mem h hi hk).2 (U_trans h hi ((anc_mem h hi hj).1 hy) ((anc_mem h hj hk).1 hz))

theorem anc_anti {x y : ByteArray} (hx : x ∈ N) (hy : y ∈ anc N A x) (hx' : x ∈ anc N A y) : x = y := by
  have hyN := anc_sub h hx hy
  obtain ⟨i, hi, rfl⟩ := in_N hx
  obtain ⟨j, hj, rfl⟩ := in_N hyN
  rw [U_anti h hi ((anc_mem h hi hj).1 hy) ((anc_mem h hj hi).1 hx')]

/-- What two have in common: above both, and below all that is. -/
theorem shared_spec {x y : ByteArray} (hx : x ∈ N) (hy : y ∈ N) :
    shared (anc N A x) (anc N A y) ∈ anc N A x ∧ shared (anc N A x) (anc N A y) ∈ anc N A y ∧ ∀ z, z ∈ anc N A x → z ∈ anc N A y → z ∈ anc N A (shared (anc N A x) (anc N A y)) := by
  obtain ⟨i, hi, rfl⟩ := in_N hx
  obtain ⟨j, hj, rfl⟩ := in_N hy
  have h0 : 0 < N.length := by omega
  have t1 : nameAt N 0 ∈ anc N A (nameAt N i) := (anc_mem h hi h0).2 (U_top h hi)
  have t2 : nameAt N 0 ∈ anc N A (nameAt N j) := (anc_mem h hj h0).2 (U_top h hj)
  unfold shared
  cases hf : (anc N A (nameAt N i)).find? (fun x => inL x (anc N A (nameAt N j))) with
  | none =>
    rw [List.find?_eq_none] at hf
    exact absurd (inL_iff.2 t2) (by simpa using hf _ t1)
  | some c =>
    simp only [Option.getD_some]
    obtain ⟨hc2, la, lb, has, hno⟩ := List.find?_eq_some_iff_append.1 hf
    have hc1 : c ∈ anc N A (nameAt N i) := by rw [has]; simp
    refine ⟨hc1, inL_iff.1 hc2, fun z hz1 hz2 => ?_⟩
    have hcN := anc_sub h hx hc1
    have hzN := anc_sub h hx hz1
    obtain ⟨k, hk, rfl⟩ := in_N hcN
    obtain ⟨l, hl, rfl⟩ := in_N hzN
    refine (anc_mem h hk hl).2 ?_
    have e := anc_of h hi
    rw [has] at e
    have hat : (U N A i)[la.length]? = some k := by
      have hlen : la.length < (U N A i).length := by
        have := congrArg List.length e
        simp at this
        omega
      obtain ⟨k', hk'⟩ : ∃ k', (U N A i)[la.length]? = some k' := ⟨_, List.getElem?_eq_getElem hlen⟩
      have e2 := congrArg (fun l => l[la.length]?) e
      simp [hk'] at e2
      rw [hk', name_inj h hk (U_lt h hi (List.mem_of_getElem? hk')) e2]
    refine U_first h hi hat ((anc_mem h hi hl).1 hz1) (fun ht => ?_)
    have : nameAt N l ∈ la := by
      have e3 := congrArg (fun l => l.take la.length) e
      simp at e3
      rw [e3, ← List.map_take]
      exact List.mem_map.2 ⟨l, ht, rfl⟩
    have := hno _ this
    rw [inL_iff.2 hz2] at this
    simp at this
end
end Go.Proofs.Ytabiagheflkiaaa
