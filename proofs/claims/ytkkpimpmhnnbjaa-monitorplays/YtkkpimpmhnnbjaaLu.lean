/- Both tell the same of who holds what. -/
import Derived.Test.YtkkpimpmhnnbjaaLs
namespace Go.Proofs.Ytkkpimpmhnnbjaa
open Go.ChangeShapes Go.WideShapes Go.ChangeAt Go.RowKit

theorem mem_insI (a k : Int) (l : List Int) : k ∈ insI a l ↔ k = a ∨ k ∈ l := by
  unfold insI
  have : k ∈ l ↔ k ∈ l.take (kI a l) ∨ k ∈ l.drop (kI a l) := by
    rw [← List.mem_append, List.take_append_drop]
  rw [List.mem_append, List.mem_cons, this]
  constructor
  · rintro (h | h | h)
    · exact .inr (.inl h)
    · exact .inl h
    · exact .inr (.inr h)
  · rintro (h | h | h)
    · exact .inr (.inl h)
    · exact .inl h
    · exact .inr (.inr h)

theorem insI_cons (a x : Int) (l : List Int) : insI a (x :: l) = if x < a then x :: insI a l else a :: x :: l := by
  unfold insI
  by_cases h : x < a
  · have e : kI a (x :: l) = kI a l + 1 := by simp [kI, h]
    rw [e, if_pos h]
    rfl
  · have e : kI a (x :: l) = 0 := by simp [kI, h]
    rw [e, if_neg h]
    rfl

theorem insI_rising {a : Int} {l : List Int} (h : l.Pairwise (· < ·)) (ha : a ∉ l) : (insI a l).Pairwise (· < ·) := by
  induction l with
  | nil => simp [insI, kI]
  | cons x l ih =>
    obtain ⟨h1, h2⟩ := List.pairwise_cons.1 h
    rw [insI_cons]
    by_cases hx : x < a
    · rw [if_pos hx]
      refine List.pairwise_cons.2 ⟨fun y hy => ?_, ih h2 (fun k => ha (List.mem_cons_of_mem _ k))⟩
      rcases (mem_insI a y l).1 hy with rfl | hy
      · exact hx
      · exact h1 y hy
    · rw [if_neg hx]
      have hxa : x ≠ a := fun e => ha (by rw [e]; exact List.mem_cons_self)
      refine List.pairwise_cons.2 ⟨fun y hy => ?_, h⟩
      rcases List.mem_cons.1 hy with rfl | hy
      · omega
      · have := h1 y hy
        omega

theorem heldF_all (t : Int) (T : List (Int × Lk)) (hk : Keys T) : ∀ l : List Int, l.Pairwise (· < ·) → (∀ p ∈ T, p.1 ∉ l) →
    (T.foldl (fun l p => if t < 1 ∨ p.2.owner ≠ t then l else insI p.1 l) l).Pairwise (· < ·) ∧ ∀ k, k ∈ T.foldl (fun l p => if t < 1 ∨ p.2.owner ≠ t then l else insI p.1 l) l ↔ k ∈ l ∨ ∃ x, (k, x) ∈ T ∧ ¬ (t < 1 ∨ x.owner ≠ t) := by
  induction T with
  | nil => intro l h1 h2; exact ⟨h1, fun k => by simp⟩
  | cons p T ih =>
    intro l h1 h2
    obtain ⟨hk1, hk2⟩ := hk.tail
    rw [List.foldl_cons]
    by_cases hs : t < 1 ∨ p.2.owner ≠ t
    · rw [if_pos hs]
      obtain ⟨i1, i2⟩ := ih hk1 l h1 (fun r hr => h2 r (List.mem_cons_of_mem _ hr))
      refine ⟨i1, fun k => ?_⟩
      rw [i2]
      constructor
      · rintro (h | ⟨x, hx, hn⟩)
        · exact .inl h
        · exact .inr ⟨x, List.mem_cons_of_mem _ hx, hn⟩
      · rintro (h | ⟨x, hx, hn⟩)
        · exact .inl h
        · rcases List.mem_cons.1 hx with e | hx
          · rw [← e] at hs
            exact absurd hs hn
          · exact .inr ⟨x, hx, hn⟩
    · rw [if_neg hs]
      obtain ⟨i1, i2⟩ := ih hk1 (insI p.1 l) (insI_rising h1 (h2 p List.mem_cons_self)) (fun r hr k => by
        rcases (mem_insI p.1 r.1 l).1 k with e | k
        · exact hk2 r hr e
        · exact h2 r (List.mem_cons_of_mem _ hr) k)
      refine ⟨i1, fun k => ?_⟩
      rw [i2, mem_insI]
      constructor
      · rintro ((h | h) | ⟨x, hx, hn⟩)
        · exact .inr ⟨p.2, by rw [h]; exact List.mem_cons_self, hs⟩
        · exact .inl h
        · exact .inr ⟨x, List.mem_cons_of_mem _ hx, hn⟩
      · rintro (h | ⟨x, hx, hn⟩)
        · exact .inl (.inr h)
        · rcases List.mem_cons.1 hx with e | hx
          · exact .inl (.inl (by rw [← e]))
          · exact .inr ⟨x, hx, hn⟩

theorem fdT_of_mem {T : List (Int × Lk)} {a : Int} {x : Lk} (h : (a, x) ∈ T) : ∃ i, fdT T a = some i := by
  cases hf : fdT T a with
  | some i => exact ⟨i, rfl⟩
  | none => exact absurd rfl (fdT_none_mem hf (a, x) h)

theorem dLk_of_mem {T : List (Int × Lk)} (hk : Keys T) {a : Int} {x : Lk} (h : (a, x) ∈ T) : dLk T a = x := by
  obtain ⟨i, hi⟩ := List.getElem?_of_mem h
  exact dLk_nth hk hi

theorem Lnk.held {s : St} {T : List (Int × Lk)} (h : Lnk s T) (t : Int) : HeldL s.S t (heldF t T) := by
  obtain ⟨h1, h2⟩ := heldF_all t T h.keys [] List.Pairwise.nil (fun p _ k => by simp at k)
  refine ⟨h1, fun k => ?_⟩
  have h2 := h2 k
  unfold heldF
  rw [h2]
  constructor
  · rintro (k | ⟨x, hx, hn⟩)
    · simp at k
    · obtain ⟨i, hi⟩ := fdT_of_mem hx
      have hat := dLk_at hi
      rw [dLk_of_mem h.keys hx] at hat
      have ho : dOwn T k t = some (i, x) := by
        unfold dOwn
        rw [hi]
        simp only [hat]
        rw [if_neg hn]
      rw [(h.own ho).1]
      rfl
  · intro hs
    cases ho : dOwn T k t with
    | none => rw [h.not ho] at hs; simp at hs
    | some p =>
      obtain ⟨i, x⟩ := p
      obtain ⟨-, hx, -, hox, ht, -⟩ := h.own ho
      exact .inr ⟨x, List.mem_of_getElem? hx, by omega⟩
end Go.Proofs.Ytkkpimpmhnnbjaa
