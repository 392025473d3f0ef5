/- The document's arena anew, and both arenas anew. -/
import Derived.Test.YtopcbcdigllenaaP0
namespace Go.Proofs.Ytopcbcdigllenaa
open Go.ChangeShapes Go.WideShapes Go.ChangeAt Go.RowKit

set_option maxRecDepth 100000 in
theorem refNew_eq (w : World) (words : Int) :
    Calls Try.prog 10 #[.int .i64 words] w fun e w' => e = .returned (.pointer (some ⟨w.heap.size, 0, none⟩)) ∧ w' = w.alloc (.cells #[.int .i64 ((sizeN words : Nat) : Int), .slice none 0 0] 43) := by
  have hs : ((sizeN words : Nat) : Int) = min (max words 0) 2048 := by unfold sizeN; omega
  generalize sizeN words = n at *
  by_cases h0 : words < 0
  · have e : Hid (((n : Nat) : Int) = 0) := by rw [Hid]; omega
    have h1 : ¬ ((2048 : Int) < words) := by omega
    have h2 : ¬ ((0 : Int) < words) := by omega
    clear hs
    go_enter Try.func10, Try.ntmps10
    go_wp2_with fail
    go_ret
    exact ⟨rfl, by rw [e.out]⟩
  · by_cases h1 : 2048 < words
    · have e : Hid (((n : Nat) : Int) = 2048) := by rw [Hid]; omega
      clear hs
      go_enter Try.func10, Try.ntmps10
      go_wp2_with fail
      go_ret
      exact ⟨rfl, by rw [e.out]⟩
    · have e : Hid (((n : Nat) : Int) = words) := by rw [Hid]; omega
      clear hs
      by_cases h2 : words = 0
      · subst h2
        go_enter Try.func10, Try.ntmps10
        go_wp2_with fail
        go_ret
        exact ⟨rfl, by rw [e.out]⟩
      · have h3 : (0 : Int) < words := by omega
        go_enter Try.func10, Try.ntmps10
        go_wp2_with fail
        go_ret
        exact ⟨rfl, by rw [e.out]⟩

theorem linked_new (n : Nat) (h : n ≤ 2048) : Linked n (newB n) [] := by
  have e := whole_new n
  refine ⟨?_, ?_, ?_, h⟩
  · unfold newB
    split <;> rfl
  · unfold newB
    split <;> rfl
  · exact e.size

/-- Both arenas anew. -/
theorem pl_new {w w1 w2 : World} {n : Nat} (hn : n ≤ 2048) (f1 : Fr no w w1) (h2 : HP w2 (w1.heap.size + 1) w1.heap.size (newB n)) (f2 : Fr no w1 w2) :
    Pl w (w2.alloc (.cells #[.int .i64 (n : Int), .slice none 0 0] 43)) (w1.heap.size + 1) w1.heap.size w2.heap.size n (newB n) [] := by
  have RN := refNew_run w2 (n : Int)
  have e : (w2.alloc (.cells #[.int .i64 (n : Int), .slice none 0 0] 43)).heap[w2.heap.size]? = some (.cells #[.int .i64 (n : Int), .slice none 0 0] 43 (0, 0)) := heap_alloc_new w2 _
  have s1 := f1.size
  have s2 := f2.size
  refine ⟨⟨h2.keep RN.2, ⟨RN.1.hd, fun o ho => by simp at ho, List.nodup_nil⟩, ⟨by omega, fun v hv k hk => ?_, fun o ho => by simp at ho⟩, f1.size, (f1.and f2).and RN.2⟩, linked_new n hn, fun o ho => by simp at ho⟩
  have e' : (w2.alloc (.cells #[.int .i64 (n : Int), .slice none 0 0] 43)).cell? ⟨w2.heap.size, 1, none⟩ = some (.slice none 0 0) := by
    unfold World.cell?
    rw [e]
    rfl
  rw [hv] at e'
  simp only [Option.some.injEq] at e'
  subst e'
  simp [Value.ownBlock] at hk
end Go.Proofs.Ytopcbcdigllenaa
