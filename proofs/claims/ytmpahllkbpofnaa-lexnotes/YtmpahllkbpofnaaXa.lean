/- Bytes of tokens; keywords. -/
import Derived.Test.YtmpahllkbpofnaaPz
import Derived.Laws.Tables
import Derived.Laws.Strings
namespace Go.Proofs.Ytmpahllkbpofnaa
open Go.ChangeShapes Go.WideShapes Go.ChangeAt Go.RowKit


theorem digit_any (w : World) (c : Nat) : Calls Try.prog 29 #[.int .u8 (c : Int)] w fun e w' => e = .returned (.bool (digitB c)) ∧ w' = w := by
  by_cases h1 : 48 ≤ c
  · by_cases h2 : c ≤ 57
    · rw [show digitB c = true by simp [digitB]; omega]
      go_enter Try.func29, Try.ntmps29
      go_wp2_with fail
      go_ret
      exact ⟨by simp; omega, rfl⟩
    · rw [show digitB c = false by simp [digitB]; omega]
      go_enter Try.func29, Try.ntmps29
      go_wp2_with fail
      go_ret
      exact ⟨by simp; omega, rfl⟩
  · rw [show digitB c = false by simp [digitB]; omega]
    go_enter Try.func29, Try.ntmps29
    go_wp2_with fail
    go_ret
    exact ⟨rfl, rfl⟩

theorem blank_any (w : World) (c : Nat) : Calls Try.prog 27 #[.int .u8 (c : Int)] w fun e w' => e = .returned (.bool (blankB c)) ∧ w' = w := by
  rcases (show c = 32 ∨ c = 9 ∨ c = 10 ∨ c = 13 ∨ (c ≠ 32 ∧ c ≠ 9 ∧ c ≠ 10 ∧ c ≠ 13) by omega) with h | h | h | h | ⟨h1, h2, h3, h4⟩
  · subst h
    go_enter Try.func27, Try.ntmps27
    go_wp2_with fail
    go_ret
    exact ⟨rfl, rfl⟩
  · subst h
    go_enter Try.func27, Try.ntmps27
    go_wp2_with fail
    go_ret
    exact ⟨rfl, rfl⟩
  · subst h
    go_enter Try.func27, Try.ntmps27
    go_wp2_with fail
    go_ret
    exact ⟨rfl, rfl⟩
  · subst h
    go_enter Try.func27, Try.ntmps27
    go_wp2_with fail
    go_ret
    exact ⟨rfl, rfl⟩
  · rw [show blankB c = false by simp [blankB]; omega]
    have e1 : ((c : Int) == 32) = false := by simp; omega
    have e2 : ((c : Int) == 9) = false := by simp; omega
    have e3 : ((c : Int) == 10) = false := by simp; omega
    have e4 : ((c : Int) == 13) = false := by simp; omega
    go_enter Try.func27, Try.ntmps27
    go_wp2_with fail
    go_ret
    exact ⟨rfl, rfl⟩

theorem letter_any (w : World) (c : Nat) (f : Bool) : Calls Try.prog 28 #[.int .u8 (c : Int), .bool f] w fun e w' => e = .returned (.bool (letterB c f)) ∧ w' = w := by
  rcases (show (c ≤ 35) ∨ (36 ≤ c ∧ c ≤ 36) ∨ (37 ≤ c ∧ c ≤ 47) ∨ (48 ≤ c ∧ c ≤ 57) ∨ (58 ≤ c ∧ c ≤ 64) ∨ (65 ≤ c ∧ c ≤ 90) ∨ (91 ≤ c ∧ c ≤ 94) ∨ (95 ≤ c ∧ c ≤ 95) ∨ (96 ≤ c ∧ c ≤ 96) ∨ (97 ≤ c ∧ c ≤ 122) ∨ (123 ≤ c) by omega) with h1 | ⟨h1, h2⟩ | ⟨h1, h2⟩ | ⟨h1, h2⟩ | ⟨h1, h2⟩ | ⟨h1, h2⟩ | ⟨h1, h2⟩ | ⟨h1, h2⟩ | ⟨h1, h2⟩ | ⟨h1, h2⟩ | h1
  · have hv : letterB c f = false := by
      unfold letterB
      cases f <;> simp <;> omega
    rw [hv]
    clear hv
    have g97 : ¬ 97 ≤ c := by omega
    have g65 : ¬ 65 ≤ c := by omega
    have g48 : ¬ 48 ≤ c := by omega
    have k122 : c ≤ 122 := by omega
    have k90 : c ≤ 90 := by omega
    have k57 : c ≤ 57 := by omega
    have e95 : ((c : Int) == 95) = false := by simp; omega
    have e36 : ((c : Int) == 36) = false := by simp; omega
    clear h1
    go_enter Try.func28, Try.ntmps28
    go_wp2_with fail
    go_ret
    first | exact ⟨rfl, rfl⟩ | exact ⟨by simp; omega, rfl⟩
  · obtain rfl : c = 36 := by omega
    clear h1 h2
    cases f <;>
    · go_enter Try.func28, Try.ntmps28
      go_wp2_with fail
      go_ret
      exact ⟨rfl, rfl⟩
  · have hv : letterB c f = false := by
      unfold letterB
      cases f <;> simp <;> omega
    rw [hv]
    clear hv
    have g97 : ¬ 97 ≤ c := by omega
    have g65 : ¬ 65 ≤ c := by omega
    have g48 : ¬ 48 ≤ c := by omega
    have k122 : c ≤ 122 := by omega
    have k90 : c ≤ 90 := by omega
    have k57 : c ≤ 57 := by omega
    have e95 : ((c : Int) == 95) = false := by simp; omega
    have e36 : ((c : Int) == 36) = false := by simp; omega
    clear h1 h2
    go_enter Try.func28, Try.ntmps28
    go_wp2_with fail
    go_ret
    first | exact ⟨rfl, rfl⟩ | exact ⟨by simp; omega, rfl⟩
  · have hv : letterB c f = !f := by
      unfold letterB
      cases f <;> simp <;> omega
    rw [hv]
    clear hv
    have g97 : ¬ 97 ≤ c := by omega
    have g65 : ¬ 65 ≤ c := by omega
    have g48 : 48 ≤ c := by omega
    have k122 : c ≤ 122 := by omega
    have k90 : c ≤ 90 := by omega
    have k57 : c ≤ 57 := by omega
    have e95 : ((c : Int) == 95) = false := by simp; omega
    have e36 : ((c : Int) == 36) = false := by simp; omega
    clear h1 h2
    cases f <;>
    · go_enter Try.func28, Try.ntmps28
      go_wp2_with fail
      go_ret
      exact ⟨rfl, rfl⟩
  · have hv : letterB c f = false := by
      unfold letterB
      cases f <;> simp <;> omega
    rw [hv]
    clear hv
    have g97 : ¬ 97 ≤ c := by omega
    have g65 : ¬ 65 ≤ c := by omega
    have g48 : 48 ≤ c := by omega
    have k122 : c ≤ 122 := by omega
    have k90 : c ≤ 90 := by omega
    have k57 : ¬ c ≤ 57 := by omega
    have e95 : ((c : Int) == 95) = false := by simp; omega
    have e36 : ((c : Int) == 36) = false := by simp; omega
    clear h1 h2
    go_enter Try.func28, Try.ntmps28
    go_wp2_with fail
    go_ret
    first | exact ⟨rfl, rfl⟩ | exact ⟨by simp; omega, rfl⟩
  · have hv : letterB c f = true := by
      unfold letterB
      cases f <;> simp <;> omega
    rw [hv]
    clear hv
    have g97 : ¬ 97 ≤ c := by omega
    have g65 : 65 ≤ c := by omega
    have g48 : 48 ≤ c := by omega
    have k122 : c ≤ 122 := by omega
    have k90 : c ≤ 90 := by omega
    have k57 : ¬ c ≤ 57 := by omega
    have e95 : ((c : Int) == 95) = false := by simp; omega
    have e36 : ((c : Int) == 36) = false := by simp; omega
    clear h1 h2
    go_enter Try.func28, Try.ntmps28
    go_wp2_with fail
    go_ret
    first | exact ⟨rfl, rfl⟩ | exact ⟨by simp; omega, rfl⟩
  · have hv : letterB c f = false := by
      unfold letterB
      cases f <;> simp <;> omega
    rw [hv]
    clear hv
    have g97 : ¬ 97 ≤ c := by omega
    have g65 : 65 ≤ c := by omega
    have g48 : 48 ≤ c := by omega
    have k122 : c ≤ 122 := by omega
    have k90 : ¬ c ≤ 90 := by omega
    have k57 : ¬ c ≤ 57 := by omega
    have e95 : ((c : Int) == 95) = false := by simp; omega
    have e36 : ((c : Int) == 36) = false := by simp; omega
    clear h1 h2
    go_enter Try.func28, Try.ntmps28
    go_wp2_with fail
    go_ret
    first | exact ⟨rfl, rfl⟩ | exact ⟨by simp; omega, rfl⟩
  · obtain rfl : c = 95 := by omega
    clear h1 h2
    cases f <;>
    · go_enter Try.func28, Try.ntmps28
      go_wp2_with fail
      go_ret
      exact ⟨rfl, rfl⟩
  · obtain rfl : c = 96 := by omega
    clear h1 h2
    cases f <;>
    · go_enter Try.func28, Try.ntmps28
      go_wp2_with fail
      go_ret
      exact ⟨rfl, rfl⟩
  · have hv : letterB c f = true := by
      unfold letterB
      cases f <;> simp <;> omega
    rw [hv]
    clear hv
    have g97 : 97 ≤ c := by omega
    have g65 : 65 ≤ c := by omega
    have g48 : 48 ≤ c := by omega
    have k122 : c ≤ 122 := by omega
    have k90 : ¬ c ≤ 90 := by omega
    have k57 : ¬ c ≤ 57 := by omega
    have e95 : ((c : Int) == 95) = false := by simp; omega
    have e36 : ((c : Int) == 36) = false := by simp; omega
    clear h1 h2
    go_enter Try.func28, Try.ntmps28
    go_wp2_with fail
    go_ret
    first | exact ⟨rfl, rfl⟩ | exact ⟨by simp; omega, rfl⟩
  · have hv : letterB c f = false := by
      unfold letterB
      cases f <;> simp <;> omega
    rw [hv]
    clear hv
    have g97 : 97 ≤ c := by omega
    have g65 : 65 ≤ c := by omega
    have g48 : 48 ≤ c := by omega
    have k122 : ¬ c ≤ 122 := by omega
    have k90 : ¬ c ≤ 90 := by omega
    have k57 : ¬ c ≤ 57 := by omega
    have e95 : ((c : Int) == 95) = false := by simp; omega
    have e36 : ((c : Int) == 36) = false := by simp; omega
    clear h1
    go_enter Try.func28, Try.ntmps28
    go_wp2_with fail
    go_ret
    first | exact ⟨rfl, rfl⟩ | exact ⟨by simp; omega, rfl⟩

end Go.Proofs.Ytmpahllkbpofnaa
