/- Whether a type is one of a value: the statement's own question. -/
import Derived.Test.YtabiagheflkiaaaLat
import Derived.Test.YtabiagheflkiaaaRef2
namespace Go.Proofs.Ytabiagheflkiaaa
open Go.ChangeShapes Go.WideShapes Go.ChangeAt Go.RowKit

theorem empty_iff (c : ByteArray) : c.toList.isEmpty = decide (c = ByteArray.empty) := by
  by_cases h : c = ByteArray.empty
  · subst h; simp
  · rw [decide_eq_false h]
    have : c.toList ≠ [] := fun e => h (by
      have := (toList_nil c).1 e
      exact ByteArray.ext (Array.eq_empty_of_size_eq_zero this))
    simpa using this

set_option maxHeartbeats 1000000 in
theorem real_any {c : Nat} (w : World) (p : Nat) (N : List ByteArray) (A : List Nat) (h : HB c w p N A) (t : Ty) (ht : t.c.size ≤ 1099511627776) :
    Calls Try.prog 29 #[.pointer (some ⟨p, 0, none⟩), tyV t] w fun e w' => e = .returned (.bool (realT N t)) ∧ Fr no w w' := by
  obtain ⟨k, c⟩ := t
  unfold tyV
  simp only [] at *
  have HF : Hid (Fr no w (w.alloc (.cells #[.int .i64 k, .string c] 24))) := (Fr.refl no w).alloc _ _
  have H := has_any (w.alloc (.cells #[.int .i64 k, .string c] 24)) p N A (h.keep HF.out) c ht
  clear h
  by_cases h4 : k = 4
  · subst h4
    have HE : Hid (realT N ⟨4, c⟩ = (ix c N).isSome) := by show _ = _; unfold realT; rw [if_pos rfl]
    generalize (ix c N).isSome = b at *
    go_enter Try.func29, Try.ntmps29
    go_wp2_with fail
    refine H.mono ?_
    rintro e w1 ⟨rfl, rfl⟩
    go_wp2_with fail
    go_ret
    rw [HE.out]
    exact ⟨rfl, HF.out⟩
  have q4 : (k == 4) = false := by simpa using h4
  clear H
  by_cases he : c.toList = []
  · have ce : c = ByteArray.empty := by
      have := empty_iff c
      rw [he] at this
      simpa using this.symm
    by_cases h1 : 1 ≤ k
    · have HE : Hid (realT N ⟨k, c⟩ = decide (k ≤ 5)) := by show _ = _; unfold realT; rw [if_neg h4]; simp [ce, h1]
      clear ce
      go_enter Try.func29, Try.ntmps29
      go_wp2_with fail
      go_ret
      rw [HE.out]
      exact ⟨by first | rfl | (simp; done), HF.out⟩
    · have HE : Hid (realT N ⟨k, c⟩ = false) := by show _ = _; unfold realT; rw [if_neg h4]; simp [h1]
      clear ce
      go_enter Try.func29, Try.ntmps29
      go_wp2_with fail
      go_ret
      rw [HE.out]
      exact ⟨by first | rfl | (simp; done), HF.out⟩
  · have hne : c.toList.isEmpty = false := by simpa using he
    have HE : Hid (realT N ⟨k, c⟩ = false) := by
      have := empty_iff c
      rw [hne] at this
      show _ = _
      unfold realT
      rw [if_neg h4]
      have h' : ¬ c = ByteArray.empty := by simpa using this.symm
      simp [h']
    go_enter Try.func29, Try.ntmps29
    go_wp2_with fail
    go_ret
    rw [HE.out]
    exact ⟨by first | rfl | (simp; done), HF.out⟩
end Go.Proofs.Ytabiagheflkiaaa
