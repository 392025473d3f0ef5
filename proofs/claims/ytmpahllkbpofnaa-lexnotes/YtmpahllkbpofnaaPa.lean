/- Bytes, keywords and the head of a text, of the program's lexer. -/
import Derived.Test.YtmpahllkbpofnaaXa
import Derived.Test.YtmpahllkbpofnaaYa
namespace Go.Proofs.Ytmpahllkbpofnaa
open Go.ChangeShapes Go.WideShapes Go.ChangeAt Go.RowKit

theorem pDigit (w : World) (c : Nat) : Calls Try.prog 23 #[.int .u8 (c : Int)] w fun e w' => e = .returned (.bool (digitB c)) ∧ w' = w := by
  by_cases h1 : 48 ≤ c
  · by_cases h2 : c ≤ 57
    · rw [show digitB c = true by simp [digitB]; omega]
      go_enter Try.func23, Try.ntmps23
      go_wp2_with fail
      go_ret
      exact ⟨by simp; omega, rfl⟩
    · rw [show digitB c = false by simp [digitB]; omega]
      go_enter Try.func23, Try.ntmps23
      go_wp2_with fail
      go_ret
      exact ⟨by simp; omega, rfl⟩
  · rw [show digitB c = false by simp [digitB]; omega]
    go_enter Try.func23, Try.ntmps23
    go_wp2_with fail
    go_ret
    exact ⟨rfl, rfl⟩

theorem pBlank (w : World) (c : Nat) : Calls Try.prog 17 #[.int .u8 (c : Int)] w fun e w' => e = .returned (.bool (blankB c)) ∧ w' = w := by
  rcases (show c = 32 ∨ c = 9 ∨ c = 10 ∨ c = 13 ∨ (c ≠ 32 ∧ c ≠ 9 ∧ c ≠ 10 ∧ c ≠ 13) by omega) with h | h | h | h | ⟨h1, h2, h3, h4⟩
  · subst h
    go_enter Try.func17, Try.ntmps17
    go_wp2_with fail
    go_ret
    exact ⟨rfl, rfl⟩
  · subst h
    go_enter Try.func17, Try.ntmps17
    go_wp2_with fail
    go_ret
    exact ⟨rfl, rfl⟩
  · subst h
    go_enter Try.func17, Try.ntmps17
    go_wp2_with fail
    go_ret
    exact ⟨rfl, rfl⟩
  · subst h
    go_enter Try.func17, Try.ntmps17
    go_wp2_with fail
    go_ret
    exact ⟨rfl, rfl⟩
  · rw [show blankB c = false by simp [blankB]; omega]
    have e1 : ((c : Int) == 32) = false := by simp; omega
    have e2 : ((c : Int) == 9) = false := by simp; omega
    have e3 : ((c : Int) == 10) = false := by simp; omega
    have e4 : ((c : Int) == 13) = false := by simp; omega
    go_enter Try.func17, Try.ntmps17
    go_wp2_with fail
    go_ret
    exact ⟨rfl, rfl⟩

theorem pLine (w : World) (c : Nat) : Calls Try.prog 20 #[.int .u8 (c : Int)] w fun e w' => e = .returned (.bool (Y.notNl c)) ∧ w' = w := by
  by_cases h : c = 10
  · subst h
    go_enter Try.func20, Try.ntmps20
    go_wp2_with fail
    go_ret
    exact ⟨rfl, rfl⟩
  · have hv : Y.notNl c = true := by simp [Y.notNl, h]
    rw [hv]
    have e1 : ((c : Int) != 10) = true := by simp; omega
    go_enter Try.func20, Try.ntmps20
    go_wp2_with fail
    go_ret
    exact ⟨rfl, rfl⟩

theorem pLetter (w : World) (c : Nat) : Calls Try.prog 21 #[.int .u8 (c : Int)] w fun e w' => e = .returned (.bool (letterB c true)) ∧ w' = w := by
  rcases (show (c ≤ 35) ∨ (36 ≤ c ∧ c ≤ 36) ∨ (37 ≤ c ∧ c ≤ 64) ∨ (65 ≤ c ∧ c ≤ 90) ∨ (91 ≤ c ∧ c ≤ 94) ∨ (95 ≤ c ∧ c ≤ 95) ∨ (96 ≤ c ∧ c ≤ 96) ∨ (97 ≤ c ∧ c ≤ 122) ∨ (123 ≤ c) by omega) with h1 | ⟨h1, h2⟩ | ⟨h1, h2⟩ | ⟨h1, h2⟩ | ⟨h1, h2⟩ | ⟨h1, h2⟩ | ⟨h1, h2⟩ | ⟨h1, h2⟩ | h1
  · rw [show letterB c true = false by unfold letterB; simp; omega]
    have g97 : ¬ 97 ≤ c := by omega
    have g65 : ¬ 65 ≤ c := by omega
    have k122 : c ≤ 122 := by omega
    have k90 : c ≤ 90 := by omega
    have e95 : ((c : Int) == 95) = false := by simp; omega
    have e36 : ((c : Int) == 36) = false := by simp; omega
    clear h1
    go_enter Try.func21, Try.ntmps21
    go_wp2_with fail
    go_ret
    first | exact ⟨rfl, rfl⟩ | exact ⟨by simp; omega, rfl⟩
  · obtain rfl : c = 36 := by omega
    clear h1 h2
    go_enter Try.func21, Try.ntmps21
    go_wp2_with fail
    go_ret
    first | exact ⟨rfl, rfl⟩ | exact ⟨by simp; omega, rfl⟩
  · rw [show letterB c true = false by unfold letterB; simp; omega]
    have g97 : ¬ 97 ≤ c := by omega
    have g65 : ¬ 65 ≤ c := by omega
    have k122 : c ≤ 122 := by omega
    have k90 : c ≤ 90 := by omega
    have e95 : ((c : Int) == 95) = false := by simp; omega
    have e36 : ((c : Int) == 36) = false := by simp; omega
    clear h1 h2
    go_enter Try.func21, Try.ntmps21
    go_wp2_with fail
    go_ret
    first | exact ⟨rfl, rfl⟩ | exact ⟨by simp; omega, rfl⟩
  · rw [show letterB c true = true by unfold letterB; simp; omega]
    have g97 : ¬ 97 ≤ c := by omega
    have g65 : 65 ≤ c := by omega
    have k122 : c ≤ 122 := by omega
    have k90 : c ≤ 90 := by omega
    have e95 : ((c : Int) == 95) = false := by simp; omega
    have e36 : ((c : Int) == 36) = false := by simp; omega
    clear h1 h2
    go_enter Try.func21, Try.ntmps21
    go_wp2_with fail
    go_ret
    first | exact ⟨rfl, rfl⟩ | exact ⟨by simp; omega, rfl⟩
  · rw [show letterB c true = false by unfold letterB; simp; omega]
    have g97 : ¬ 97 ≤ c := by omega
    have g65 : 65 ≤ c := by omega
    have k122 : c ≤ 122 := by omega
    have k90 : ¬ c ≤ 90 := by omega
    have e95 : ((c : Int) == 95) = false := by simp; omega
    have e36 : ((c : Int) == 36) = false := by simp; omega
    clear h1 h2
    go_enter Try.func21, Try.ntmps21
    go_wp2_with fail
    go_ret
    first | exact ⟨rfl, rfl⟩ | exact ⟨by simp; omega, rfl⟩
  · obtain rfl : c = 95 := by omega
    clear h1 h2
    go_enter Try.func21, Try.ntmps21
    go_wp2_with fail
    go_ret
    first | exact ⟨rfl, rfl⟩ | exact ⟨by simp; omega, rfl⟩
  · obtain rfl : c = 96 := by omega
    clear h1 h2
    go_enter Try.func21, Try.ntmps21
    go_wp2_with fail
    go_ret
    first | exact ⟨rfl, rfl⟩ | exact ⟨by simp; omega, rfl⟩
  · rw [show letterB c true = true by unfold letterB; simp; omega]
    have g97 : 97 ≤ c := by omega
    have g65 : 65 ≤ c := by omega
    have k122 : c ≤ 122 := by omega
    have k90 : ¬ c ≤ 90 := by omega
    have e95 : ((c : Int) == 95) = false := by simp; omega
    have e36 : ((c : Int) == 36) = false := by simp; omega
    clear h1 h2
    go_enter Try.func21, Try.ntmps21
    go_wp2_with fail
    go_ret
    first | exact ⟨rfl, rfl⟩ | exact ⟨by simp; omega, rfl⟩
  · rw [show letterB c true = false by unfold letterB; simp; omega]
    have g97 : 97 ≤ c := by omega
    have g65 : 65 ≤ c := by omega
    have k122 : ¬ c ≤ 122 := by omega
    have k90 : ¬ c ≤ 90 := by omega
    have e95 : ((c : Int) == 95) = false := by simp; omega
    have e36 : ((c : Int) == 36) = false := by simp; omega
    clear h1
    go_enter Try.func21, Try.ntmps21
    go_wp2_with fail
    go_ret
    first | exact ⟨rfl, rfl⟩ | exact ⟨by simp; omega, rfl⟩

theorem letN_or (c : Nat) : Y.letN c = (letterB c true || digitB c) := by
  unfold Y.letN letterB digitB
  simp

theorem pName (w : World) (c : Nat) : Calls Try.prog 37 #[.int .u8 (c : Int)] w fun e w' => e = .returned (.bool (Y.letN c)) ∧ w' = w := by
  have L := pLetter w c
  have D := pDigit w c
  rw [letN_or]
  generalize digitB c = d at *
  cases hl : letterB c true
  · rw [hl] at L
    go_enter Try.func37, Try.ntmps37
    go_wp2_with fail
    refine L.mono ?_
    rintro _ _ ⟨rfl, rfl⟩
    go_wp2_with fail
    refine D.mono ?_
    rintro _ _ ⟨rfl, rfl⟩
    go_wp2_with fail
    go_ret
    exact ⟨rfl, rfl⟩
  · rw [hl] at L
    go_enter Try.func37, Try.ntmps37
    go_wp2_with fail
    refine L.mono ?_
    rintro _ _ ⟨rfl, rfl⟩
    go_wp2_with fail
    go_ret
    exact ⟨rfl, rfl⟩

/-- A text's bytes, as far as all are of that kind. -/
def headT (p : Nat → Bool) (t : ByteArray) : ByteArray := t.extract 0 (Y.tw p (nl t))

theorem tw_at {p : Nat → Bool} {t : ByteArray} {k : Nat} (hk : k < t.size) (hp : ∀ j, j < k → p ((nl t).getD j 0) = true) (hn : p t[k].toNat = false) : Y.tw p (nl t) = k := by
  have e : (nl t) = (nl t).take k ++ (nl t).drop k := (List.take_append_drop k (nl t)).symm
  have hl : ((nl t).take k).length = k := by rw [List.length_take, nl_length]; omega
  rw [e, Y.tw_app, Y.tw_stop, hl, Nat.add_zero]
  · intro c hc
    rw [List.head?_drop, nl_get t k hk] at hc
    simp only [Option.some.injEq] at hc
    rw [← hc]
    exact hn
  · intro c hc
    obtain ⟨j, hj, e⟩ := List.mem_iff_getElem.1 hc
    have hj' : j < k := by omega
    have := hp j hj'
    rw [List.getElem_take] at e
    rw [List.getD_eq_getElem?_getD, List.getElem?_eq_getElem (by rw [nl_length]; omega), Option.getD_some, e] at this
    exact this
theorem tw_whole {p : Nat → Bool} {t : ByteArray} (hp : ∀ j, j < t.size → p ((nl t).getD j 0) = true) : Y.tw p (nl t) = t.size := by
  have := Y.tw_app (p := p) (x := nl t) (fun c hc => by
    obtain ⟨j, hj, e⟩ := List.mem_iff_getElem.1 hc
    have := hp j (by rw [nl_length] at hj; exact hj)
    rw [List.getD_eq_getElem?_getD, List.getElem?_eq_getElem hj, Option.getD_some, e] at this
    exact this) []
  rw [List.append_nil, nl_length, Y.tw_nil] at this
  exact this

end Go.Proofs.Ytmpahllkbpofnaa
