/- What is reached: the walk's invariant. -/
import Derived.Test.YtopcbcdigllenaaG5
namespace Go.Proofs.Ytopcbcdigllenaa

/-- Those among the roots, and among what is told of each that is reached: objects alone. -/
inductive Reach (E : Int → List Int) (O R : List Int) : Int → Prop
  | root {a : Int} : a ∈ R → a ∈ O → Reach E O R a
  | step {a b : Int} : Reach E O R a → b ∈ E a → b ∈ O → Reach E O R b

theorem Reach.obj {E : Int → List Int} {O R : List Int} {a : Int} (h : Reach E O R a) : a ∈ O := by
  cases h with
  | root _ h => exact h
  | step _ _ h => exact h

structure Iv (E : Int → List Int) (O R : List Int) (n : Nat) (js : List Int) (M : List Nat) (S : List Int) : Prop where
  len : M.length = n + 1
  dom : ∀ (i y : Nat), M[i]? = some y → y ≠ 0 → (i : Int) ∈ O
  obj : ∀ a ∈ O, 0 ≤ a ∧ (M[a.toNat]? = some 1 ∨ M[a.toNat]? = some 2)
  snd : ∀ i : Nat, M[i]? = some 2 → Reach E O R (i : Int)
  stk : ∀ a, a ∈ js ++ S ↔ 0 ≤ a ∧ M[a.toNat]? = some 2
  nod : (js ++ S).Nodup

theorem hitM_iff (M : List Nat) (a : Int) : hitM M a = true ↔ 0 ≤ a ∧ M[a.toNat]? = some 1 := by
  unfold hitM
  simp

theorem Iv.step {E : Int → List Int} {O R : List Int} {n : Nat} {js : List Int} {M : List Nat} {S : List Int} (h : Iv E O R n js M S) {a : Int} (ha : a ∈ O → Reach E O R a) :
    Iv E O R n js (stR (M, S) a).1 (stR (M, S) a).2 ∧ (∀ i : Nat, M[i]? = some 2 → (stR (M, S) a).1[i]? = some 2) ∧ (a ∈ O → (stR (M, S) a).1[a.toNat]? = some 2) := by
  unfold stR
  by_cases hh : hitM M a = true
  · rw [if_pos hh]
    obtain ⟨h0, h1⟩ := (hitM_iff M a).1 hh
    obtain ⟨i, rfl⟩ : ∃ i : Nat, a = (i : Int) := ⟨a.toNat, by omega⟩
    simp only [Int.toNat_natCast] at h1 ⊢
    have hil : i < M.length := (List.getElem?_eq_some_iff.1 h1).1
    have hO : (i : Int) ∈ O := h.dom i 1 h1 (by decide)
    have g : ∀ j : Nat, (M.set i 2)[j]? = if i = j then some 2 else M[j]? := fun j => by
      rw [List.getElem?_set]
      by_cases e : i = j
      · subst e
        simp [hil]
      · simp [e]
    refine ⟨⟨by simp [h.len], fun j y hy hne => ?_, fun b hb => ?_, fun j hj => ?_, fun b => ?_, ?_⟩, fun j hj => ?_, fun _ => ?_⟩
    · rw [g] at hy
      split at hy
      · rename_i e
        rw [← e]
        exact hO
      · exact h.dom j y hy hne
    · obtain ⟨h2, h3⟩ := h.obj b hb
      refine ⟨h2, ?_⟩
      rw [g]
      split
      · exact .inr rfl
      · exact h3
    · rw [g] at hj
      split at hj
      · rename_i e
        rw [← e]
        exact ha hO
      · exact h.snd j hj
    · rw [← List.append_assoc, List.mem_append, h.stk b, g]
      simp only [List.mem_singleton]
      constructor
      · rintro (⟨h2, h3⟩ | rfl)
        · refine ⟨h2, ?_⟩
          split
          · rfl
          · exact h3
        · exact ⟨by omega, by simp⟩
      · rintro ⟨h2, h3⟩
        split at h3
        · right
          omega
        · exact .inl ⟨h2, h3⟩
    · rw [← List.append_assoc, List.nodup_append]
      refine ⟨h.nod, by simp, fun x hx y hy => ?_⟩
      simp only [List.mem_singleton] at hy
      subst hy
      rintro rfl
      have := (h.stk _).1 hx
      simp only [Int.toNat_natCast, h1] at this
      simp at this
    · rw [g, hj]
      simp
    · rw [g]
      simp
  · rw [if_neg hh]
    refine ⟨h, fun i hi => hi, fun hO => ?_⟩
    obtain ⟨h0, h1 | h1⟩ := h.obj a hO
    · exact absurd ((hitM_iff M a).2 ⟨h0, h1⟩) hh
    · exact h1

theorem Iv.reach {E : Int → List Int} {O R : List Int} {n : Nat} {js : List Int} (L : List Int) {M : List Nat} {S : List Int} (h : Iv E O R n js M S) (hL : ∀ a ∈ L, a ∈ O → Reach E O R a) :
    Iv E O R n js (reachP M S L).1 (reachP M S L).2 ∧ (∀ i : Nat, M[i]? = some 2 → (reachP M S L).1[i]? = some 2) ∧ (∀ a ∈ L, a ∈ O → (reachP M S L).1[a.toNat]? = some 2) := by
  induction L generalizing M S with
  | nil => exact ⟨h, fun i hi => hi, fun a ha => by simp at ha⟩
  | cons x r ih =>
    obtain ⟨h1, h2, h3⟩ := h.step (hL x List.mem_cons_self)
    have e : reachP M S (x :: r) = reachP (stR (M, S) x).1 (stR (M, S) x).2 r := rfl
    rw [e]
    obtain ⟨k1, k2, k3⟩ := ih h1 (fun a ha => hL a (List.mem_cons_of_mem _ ha))
    refine ⟨k1, fun i hi => k2 i (h2 i hi), fun a ha hO => ?_⟩
    rcases List.mem_cons.1 ha with rfl | ha
    · exact k2 _ (h3 hO)
    · exact k3 a ha hO

theorem Iv.pop {E : Int → List Int} {O R : List Int} {n : Nat} {js : List Int} {M : List Nat} {S : List Int} {x : Int} (h : Iv E O R n js M (S ++ [x])) : Iv E O R n (js ++ [x]) M S ∧ Reach E O R x := by
  have pm : (js ++ (S ++ [x])).Perm ((js ++ [x]) ++ S) := by
    rw [List.append_assoc]
    exact List.Perm.append_left _ List.perm_append_comm
  have hx := (h.stk x).1 (by simp)
  refine ⟨⟨h.len, h.dom, h.obj, h.snd, fun a => by rw [← pm.mem_iff, h.stk a], pm.nodup_iff.1 h.nod⟩, ?_⟩
  have := h.snd x.toNat hx.2
  rwa [Int.toNat_of_nonneg hx.1] at this

theorem startM_get (n : Nat) (O : List Int) (h : ∀ a ∈ O, 0 ≤ a ∧ a ≤ (n : Int)) (i : Nat) (hi : i ≤ n) : (startM n O)[i]? = some (if (i : Int) ∈ O then 1 else 0) := by
  have key : ∀ (O : List Int) (M : List Nat), (∀ a ∈ O, 0 ≤ a ∧ a < (M.length : Int)) → ∀ i y : Nat, M[i]? = some y → (O.foldl (fun M a => M.set a.toNat 1) M)[i]? = some (if (i : Int) ∈ O then 1 else y) := fun O => by
    induction O with
    | nil => intro M _ i y hy; simpa using hy
    | cons a r ih =>
      intro M hO i y hy
      rw [List.foldl_cons]
      have ha := hO a List.mem_cons_self
      have hy' : (M.set a.toNat 1)[i]? = some (if (i : Int) = a then 1 else y) := by
        rw [List.getElem?_set]
        have hil := (List.getElem?_eq_some_iff.1 hy).1
        by_cases e : a.toNat = i
        · rw [if_pos e, if_pos (by omega), if_pos (by omega)]
        · rw [if_neg e, if_neg (by omega), hy]
      rw [ih (M.set a.toNat 1) (fun b hb => by rw [List.length_set]; exact hO b (List.mem_cons_of_mem _ hb)) i _ hy']
      by_cases e1 : (i : Int) ∈ r
      · simp [e1]
      · by_cases e2 : (i : Int) = a
        · simp [e2]
        · simp [e1, e2]
  unfold startM
  refine key O (List.replicate (n + 1) 0) (fun a ha => by have := h a ha; simp; omega) i 0 ?_
  rw [List.getElem?_replicate, if_pos (by omega)]

theorem Iv.start {E : Int → List Int} {O R : List Int} {n : Nat} (hO : ∀ a ∈ O, 0 ≤ a ∧ a ≤ (n : Int)) : Iv E O R n [] (startM n O) [] := by
  have two : ∀ i : Nat, (startM n O)[i]? ≠ some 2 := fun i hi => by
    have hil := (List.getElem?_eq_some_iff.1 hi).1
    rw [startM_len] at hil
    rw [startM_get n O hO i (by omega)] at hi
    simp only [Option.some.injEq] at hi
    split at hi <;> omega
  refine ⟨startM_len n O, fun i y hy hne => ?_, fun a ha => ?_, fun i hi => absurd hi (two i), fun a => ⟨fun h => by simp at h, fun h => absurd h.2 (two _)⟩, List.nodup_nil⟩
  · have hil := (List.getElem?_eq_some_iff.1 hy).1
    rw [startM_len] at hil
    rw [startM_get n O hO i (by omega)] at hy
    simp only [Option.some.injEq] at hy
    by_cases e : (i : Int) ∈ O
    · exact e
    · rw [if_neg e] at hy
      omega
  · have := hO a ha
    refine ⟨this.1, .inl ?_⟩
    rw [startM_get n O hO a.toNat (by omega), Int.toNat_of_nonneg this.1, if_pos ha]

theorem Iv.perm {E : Int → List Int} {O R : List Int} {n : Nat} {js : List Int} {M : List Nat} {S : List Int} (h : Iv E O R n js M S) (hO : O.Nodup) : (js ++ S).Perm (seenL M O) := by
  have n2 : (seenL M O).Nodup := by
    unfold seenL
    exact hO.filter _
  refine (List.perm_ext_iff_of_nodup h.nod n2).2 (fun a => ?_)
  unfold seenL
  rw [h.stk, List.mem_filter]
  constructor
  · rintro ⟨h0, h1⟩
    refine ⟨?_, by simp [h1]⟩
    have := h.dom a.toNat 2 h1 (by decide)
    rwa [Int.toNat_of_nonneg h0] at this
  · rintro ⟨h0, h1⟩
    exact ⟨(h.obj a h0).1, by simpa using h1⟩

theorem Iv.few {E : Int → List Int} {O R : List Int} {n : Nat} {js : List Int} {M : List Nat} {S : List Int} (h : Iv E O R n js M S) (hO : O.Nodup) : js.length + S.length ≤ O.length := by
  have := (h.perm hO).length_eq
  rw [List.length_append] at this
  rw [this]
  exact List.length_filter_le _ _

/-- Behind the walk: what is marked is what is reached; each was asked once. -/
theorem Iv.done {E : Int → List Int} {O R : List Int} {n : Nat} {js : List Int} {M : List Nat} (h : Iv E O R n js M []) (hr : ∀ a ∈ R, a ∈ O → M[a.toNat]? = some 2) (hc : ∀ a ∈ js, ∀ b ∈ E a, b ∈ O → M[b.toNat]? = some 2) (hO : O.Nodup) :
    (∀ a ∈ O, M[a.toNat]? = some 2 ↔ Reach E O R a) ∧ js.length = (seenL M O).length := by
  have st : ∀ a, a ∈ js ↔ 0 ≤ a ∧ M[a.toNat]? = some 2 := fun a => by
    have := h.stk a
    rwa [List.append_nil] at this
  have tm : ∀ a, Reach E O R a → M[a.toNat]? = some 2 := fun a ha => by
    induction ha with
    | root h1 h2 => exact hr _ h1 h2
    | step h1 h2 h3 ih => exact hc _ ((st _).2 ⟨(h.obj _ h1.obj).1, ih⟩) _ h2 h3
  refine ⟨fun a ha => ⟨fun hm => ?_, tm a⟩, ?_⟩
  · have := h.snd a.toNat hm
    rwa [Int.toNat_of_nonneg (h.obj a ha).1] at this
  · have := (h.perm hO).length_eq
    rwa [List.append_nil] at this
end Go.Proofs.Ytopcbcdigllenaa
