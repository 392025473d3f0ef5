/- Objects and free blocks are all words, pure. -/
import Derived.Test.YtopcbcdigllenaaAp
namespace Go.Proofs.Ytopcbcdigllenaa

/-- Free blocks lie where they do. -/
theorem freesA_mem {k : Nat} {bs : List Blk} {x : Int × Int} (h : x ∈ freesA k bs) : (∃ j, Blk.free j ∈ bs ∧ x.2 = (j.length : Int) + 1) ∧ (k : Int) + 1 ≤ x.1 ∧ x.1 + x.2 ≤ (k : Int) + siz bs + 1 := by
  induction bs generalizing k with
  | nil => simp [freesA] at h
  | cons b r ih =>
    rw [siz_cons]
    cases b with
    | free j =>
      simp only [freesA, List.mem_cons] at h
      rcases h with rfl | h
      · refine ⟨⟨j, List.mem_cons_self .., by simp [Blk.len]⟩, by simp, ?_⟩
        simp only [Blk.len]
        omega
      · obtain ⟨⟨i, h1, h2⟩, h3, h4⟩ := ih h
        refine ⟨⟨i, List.mem_cons_of_mem _ h1, h2⟩, ?_, ?_⟩ <;> simp only [Blk.len] at * <;> omega
    | obj c ws =>
      simp only [freesA] at h
      obtain ⟨⟨i, h1, h2⟩, h3, h4⟩ := ih h
      refine ⟨⟨i, List.mem_cons_of_mem _ h1, h2⟩, ?_, ?_⟩ <;> simp only [Blk.len] at * <;> omega

theorem freesA_len (k : Nat) (bs : List Blk) : (freesA k bs).length ≤ siz bs ∧ (objL k bs).length ≤ siz bs := by
  induction bs generalizing k with
  | nil => exact ⟨Nat.le_refl _, Nat.le_refl _⟩
  | cons b r ih =>
    rw [siz_cons]
    have hb := b.len_pos
    cases b with
    | free j =>
      obtain ⟨h1, h2⟩ := ih (k + (Blk.free j).len)
      simp only [freesA, objL, List.length_cons]
      omega
    | obj c ws =>
      obtain ⟨h1, h2⟩ := ih (k + (Blk.obj c ws).len)
      simp only [freesA, objL, List.length_cons]
      omega

/-- None touches another one. -/
theorem freesA_apart {f : Bool} {k : Nat} {bs : List Blk} (h : tight f bs = true) : (freesA k bs).Pairwise (fun x y => x.1 + x.2 < y.1) ∧ (f = true → ∀ x ∈ freesA k bs, (k : Int) + 1 < x.1) := by
  induction bs generalizing k f with
  | nil => exact ⟨List.Pairwise.nil, fun _ x hx => by simp [freesA] at hx⟩
  | cons b r ih =>
    cases b with
    | free j =>
      simp only [tight, Bool.and_eq_true, Bool.not_eq_true'] at h
      obtain ⟨h1, h2⟩ := ih (k := k + (Blk.free j).len) h.2
      refine ⟨List.Pairwise.cons (fun y hy => ?_) h1, fun e => by rw [h.1] at e; simp at e⟩
      have := h2 rfl y hy
      simp only [Blk.len] at *
      omega
    | obj c ws =>
      simp only [tight] at h
      obtain ⟨h1, -⟩ := ih (k := k + (Blk.obj c ws).len) h
      refine ⟨h1, fun _ x hx => ?_⟩
      have := (freesA_mem (k := k + (Blk.obj c ws).len) hx).2.1
      simp only [Blk.len] at this
      omega

def sumO (l : List (Int × Nat × List Nat)) : Int := (l.map fun x => (x.2.2.length : Int) + 2).sum
def sumF (l : List (Int × Int)) : Int := (l.map fun x => x.2).sum

theorem sumO_snoc (l : List (Int × Nat × List Nat)) (x : Int × Nat × List Nat) : sumO (l ++ [x]) = sumO l + (x.2.2.length : Int) + 2 := by
  simp [sumO]
  omega

theorem sumF_snoc (l : List (Int × Int)) (x : Int × Int) : sumF (l ++ [x]) = sumF l + x.2 := by simp [sumF]

theorem sum_all (k : Nat) (bs : List Blk) : sumO (objL k bs) + sumF (freesA k bs) = (siz bs : Int) := by
  induction bs generalizing k with
  | nil => rfl
  | cons b r ih =>
    rw [siz_cons]
    cases b with
    | free j =>
      have := ih (k + (Blk.free j).len)
      simp only [objL, freesA, sumO, sumF, List.map_cons, List.sum_cons] at *
      simp only [Blk.len] at *
      omega
    | obj c ws =>
      have := ih (k + (Blk.obj c ws).len)
      simp only [objL, freesA, sumO, sumF, List.map_cons, List.sum_cons] at *
      simp only [Blk.len] at *
      omega

theorem sumO_pos (l : List (Int × Nat × List Nat)) : 0 ≤ sumO l := by
  induction l with
  | nil => exact Int.le_refl _
  | cons x l ih => simp only [sumO, List.map_cons, List.sum_cons] at *; omega

theorem sumO_append (a b : List (Int × Nat × List Nat)) : sumO (a ++ b) = sumO a + sumO b := by simp [sumO]

theorem sumO_take (l : List (Int × Nat × List Nat)) (k : Nat) : sumO (l.take k) ≤ sumO l := by
  have h := sumO_append (l.take k) (l.drop k)
  rw [List.take_append_drop] at h
  have := sumO_pos (l.drop k)
  omega

theorem sumF_append (a b : List (Int × Int)) : sumF (a ++ b) = sumF a + sumF b := by simp [sumF]

theorem sumF_pos (l : List (Int × Int)) (h : ∀ x ∈ l, 0 ≤ x.2) : 0 ≤ sumF l := by
  induction l with
  | nil => exact Int.le_refl _
  | cons x l ih =>
    have h1 := h x (List.mem_cons_self ..)
    have h2 := ih (fun y hy => h y (List.mem_cons_of_mem _ hy))
    simp only [sumF, List.map_cons, List.sum_cons] at *
    omega

theorem sumF_take (l : List (Int × Int)) (h : ∀ x ∈ l, 0 ≤ x.2) (k : Nat) : 0 ≤ sumF (l.take k) ∧ sumF (l.take k) ≤ sumF l := by
  have e := sumF_append (l.take k) (l.drop k)
  rw [List.take_append_drop] at e
  have := sumF_pos (l.drop k) (fun x hx => h x (List.mem_of_mem_drop hx))
  have := sumF_pos (l.take k) (fun x hx => h x (List.mem_of_mem_take hx))
  omega

theorem pair_at {α : Type} {R : α → α → Prop} {l : List α} (h : l.Pairwise R) {i j : Nat} {x y : α} (hi : l[i]? = some x) (hj : l[j]? = some y) (hlt : i < j) : R x y := by
  obtain ⟨h1, rfl⟩ := List.getElem?_eq_some_iff.1 hi
  obtain ⟨h2, rfl⟩ := List.getElem?_eq_some_iff.1 hj
  exact List.pairwise_iff_getElem.1 h i j h1 h2 hlt

/-- The arena and the addresses that the statement keeps. -/
structure Whole (n : Nat) (bs : List Blk) (ls : List Int) : Prop where
  tight : tight false bs = true
  size : siz bs = n
  dup : ls.Nodup
  there : ∀ x ∈ ls, beg bs x = true
  len : (objL 0 bs).length = ls.length

theorem whole_new (n : Nat) : Whole n (newB n) [] := by
  unfold newB
  by_cases h : n = 0
  · rw [if_pos h]
    exact ⟨rfl, by rw [siz_nil, h], List.nodup_nil, fun x hx => by simp at hx, rfl⟩
  · rw [if_neg h]
    exact ⟨rfl, by rw [siz_cons, siz_nil]; simp [Blk.len]; omega, List.nodup_nil, fun x hx => by simp at hx, rfl⟩

theorem Whole.alloc {n : Nat} {bs : List Blk} {ls : List Int} (h : Whole n bs ls) {c m o : Nat} (hr : roomAt m bs = some o) : Whole n (allocB c m bs) (ls ++ [(o : Int) + 1]) := by
  obtain ⟨a1, a2, a3, a4, A, B, a5, a6, -⟩ := alloc_some (c := c) hr
  have hout : ((o : Int) + 1) ∉ ls := fun hm => by
    have := h.there _ hm
    rw [beg_obj, a3] at this
    simp at this
  refine ⟨a2 h.tight, by rw [a1, h.size], ?_, fun x hx => ?_, ?_⟩
  · rw [List.nodup_append]
    refine ⟨h.dup, by simp, fun a ha b hb e => ?_⟩
    simp at hb
    exact hout (by rw [← hb, ← e]; exact ha)
  · rcases List.mem_append.1 hx with hx | hx
    · have hne : x ≠ (o : Int) + 1 := fun e => hout (by rw [← e]; exact hx)
      rw [beg_obj, a4, if_neg hne, ← beg_obj]
      exact h.there x hx
    · simp at hx
      rw [hx, beg_obj, a4, if_pos rfl]
      rfl
  · have := h.len
    rw [a5] at this
    rw [a6]
    simp at this ⊢
    omega

theorem Whole.free {n : Nat} {bs : List Blk} {ls : List Int} (h : Whole n bs ls) {k : Nat} {x : Int} (hk : ls[k]? = some x) : beg bs x = true ∧ Whole n (freeB bs x) (ls.take k ++ ls.drop (k + 1)) ∧ beg (freeB bs x) x = false := by
  have hb := h.there x (List.mem_of_getElem? hk)
  obtain ⟨f1, f2, f3, A, B, c, ws, f4, f5⟩ := free_some hb
  have hkl := (List.getElem?_eq_some_iff.1 hk).1
  have hsp : ls = ls.take k ++ x :: ls.drop (k + 1) := by
    obtain ⟨h1, h2⟩ := List.getElem?_eq_some_iff.1 hk
    rw [← h2, List.getElem_cons_drop, List.take_append_drop]
  have hdup := h.dup
  rw [hsp, List.nodup_append] at hdup
  obtain ⟨d1, d2, d3⟩ := hdup
  rw [List.nodup_cons] at d2
  refine ⟨hb, ⟨f2, by rw [f1, h.size], ?_, fun y hy => ?_, ?_⟩, by rw [beg_obj, f3, if_pos rfl]; rfl⟩
  · rw [List.nodup_append]
    exact ⟨d1, d2.2, fun a ha b hb => d3 a ha b (List.mem_cons_of_mem _ hb)⟩
  · have hyl : y ∈ ls := by
      rcases List.mem_append.1 hy with hy | hy
      · exact List.mem_of_mem_take hy
      · exact List.mem_of_mem_drop hy
    have hne : y ≠ x := fun e => by
      rcases List.mem_append.1 hy with hy | hy
      · exact d3 y hy x (List.mem_cons_self ..) e
      · exact d2.1 (by rw [← e]; exact hy)
    rw [beg_obj, f3, if_neg hne, ← beg_obj]
    exact h.there y hyl
  · have := h.len
    rw [f4] at this
    rw [f5]
    simp at this ⊢
    omega
end Go.Proofs.Ytopcbcdigllenaa
