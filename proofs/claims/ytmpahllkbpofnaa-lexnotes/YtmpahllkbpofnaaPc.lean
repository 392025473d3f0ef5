/- Parts and values of numbers, of the program's lexer. -/
import Derived.Test.YtmpahllkbpofnaaPb
import Derived.Test.YtmpahllkbpofnaaXc
namespace Go.Proofs.Ytmpahllkbpofnaa
open Go.ChangeShapes Go.WideShapes Go.ChangeAt Go.RowKit

/-- The letter behind a number's digits. -/
def partT (u : ByteArray) : ByteArray := if (nl u).head? = some 99 then ⟨#[99]⟩ else if (nl u).head? = some 105 then ⟨#[105]⟩ else ⟨#[]⟩

theorem head_ne {u : ByteArray} (h : 0 < u.size) : (nl u).head? = some u[0].toNat := by
  rw [List.head?_eq_getElem?, nl_get u 0 h]
theorem ext_one {u : ByteArray} {c : UInt8} (h : (nl u).head? = some c.toNat) : u.extract 0 1 = ⟨#[c]⟩ := by
  refine Y.nl_inj ?_
  rw [Y.nl_ext, List.drop_zero]
  cases hl : nl u with
  | nil => rw [hl] at h; simp at h
  | cons a l =>
    rw [hl] at h
    simp only [List.head?_cons, Option.some.injEq] at h
    rw [h]
    rfl

theorem size_empty {u : ByteArray} (h : ¬ 0 < u.size) : u = ⟨#[]⟩ := Y.nl_inj (by
  have : (nl u).length = 0 := by rw [nl_length]; omega
  rw [List.length_eq_zero_iff.1 this]
  rfl)

set_option maxRecDepth 100000 in
theorem pPart (w : World) (u : ByteArray) (hu : u.size ≤ 100000) : Calls Try.prog 38 #[.string u] w fun e w' => e = .returned (.string (partT u)) ∧ w' = w := by
  by_cases h0 : 0 < u.size
  · have hh := head_ne h0
    have he : u.toList.isEmpty = false := by rw [Y.size_list]; exact decide_eq_false (by omega)
    have hs : (1 : Int) ≤ (u.size : Int) := by omega
    have h0' : (0 : Int) < (u.size : Int) := by omega
    by_cases h1 : u[0].toNat = 99
    · have hp : partT u = u.extract 0 1 := by
        rw [ext_one (c := 99) (by rw [hh, h1]; rfl)]
        unfold partT
        rw [if_pos (by rw [hh, h1])]
      have e1 : ((u[0].toNat : Int) == 99) = true := by simp [h1]
      rw [hp]
      clear h1 hp hh
      go_enter Try.func38, Try.ntmps38
      go_wp2_with fail
      go_ret
      exact ⟨rfl, rfl⟩
    · have e1 : ((u[0].toNat : Int) == 99) = false := by simp; omega
      by_cases h2 : u[0].toNat = 105
      · have hp : partT u = u.extract 0 1 := by
          rw [ext_one (c := 105) (by rw [hh, h2]; rfl)]
          unfold partT
          rw [if_neg (by rw [hh, h2]; simp), if_pos (by rw [hh, h2])]
        have e2 : ((u[0].toNat : Int) == 105) = true := by simp [h2]
        rw [hp]
        clear h1 h2 hp hh
        go_enter Try.func38, Try.ntmps38
        go_wp2_with fail
        go_ret
        exact ⟨rfl, rfl⟩
      · have e2 : ((u[0].toNat : Int) == 105) = false := by simp; omega
        have hp : partT u = ⟨#[]⟩ := by
          unfold partT
          rw [if_neg (by rw [hh]; simpa using h1), if_neg (by rw [hh]; simpa using h2)]
        rw [hp]
        clear h1 h2 hp hh
        go_enter Try.func38, Try.ntmps38
        go_wp2_with fail
        go_ret
        exact ⟨rfl, rfl⟩
  · have he := size_empty h0
    subst he
    go_enter Try.func38, Try.ntmps38
    go_wp2_with fail
    go_ret
    exact ⟨rfl, rfl⟩

theorem val_step {n c : Nat} (hn : n < 10 ^ 17) (h1 : 48 ≤ c) (h2 : c ≤ 57) : wrap64 (wrap64 ((n : Int) * 10) + ((c : Int) - 48) % 256) = ((10 * n + (c - 48) : Nat) : Int) := by
  have := num_step hn h1 h2
  rw [Int.mul_comm] at this
  exact this

set_option maxRecDepth 100000 in
theorem pValue (w : World) (s : ByteArray) (hs : s.size ≤ 18) (hd : ∀ j, j < s.size → digitB ((nl s).getD j 0) = true) :
    Calls Try.prog 39 #[.string s] w fun e w' => e = .returned (.int .i64 (Y.dec (nl s) : Int)) ∧ w' = w := by
  have HD : Hid (∀ j, j < s.size → digitB ((nl s).getD j 0) = true) := hd
  have hv : decN (nl s) 0 s.size = Y.dec (nl s) := by
    rw [Y.decN_eq _ _ _ (by rw [nl_length]; omega), List.drop_zero, List.take_of_length_le (by rw [nl_length]; omega)]
  rw [← hv]
  clear hv hd
  go_enter Try.func39, Try.ntmps39
  go_wp2_with fail
  go_loopw [3, 7] (fun n i wr => wr = w ∧ ∃ j : Nat, i = .int .i64 (j : Int) ∧ n = .int .i64 (decN (nl s) 0 j : Int) ∧ j ≤ s.size) (fun _ i _ => s.size - (intOf i).toNat)
  case atStart => exact ⟨rfl, 0, rfl, rfl, by omega⟩
  case round =>
    obtain ⟨rfl, j, rfl, rfl, hj⟩ := hrel
    have hj0 : (0 : Int) ≤ (j : Int) := by omega
    by_cases hlt : j < s.size
    · have hlt' : (j : Int) < (s.size : Int) := by omega
      have hdj := digit_le (HD.out j hlt)
      rw [List.getD_eq_getElem?_getD, nl_get s j hlt, Option.getD_some] at hdj
      have hn : decN (nl s) 0 j < 10 ^ 17 := Nat.lt_of_lt_of_le (decN_lt (nl s) 0 j (fun i hi => (digit_le (by rw [Nat.zero_add]; exact HD.out i (by omega))).2)) (pow17 (by omega))
      have HS : Hid _ := val_step hn hdj.1 hdj.2
      have HV : Hid (decN (nl s) 0 (j + 1) = 10 * decN (nl s) 0 j + (s[j].toNat - 48)) := by
        show 10 * decN (nl s) 0 j + ((nl s).getD (0 + j) 0 - 48) = _
        rw [Nat.zero_add, List.getD_eq_getElem?_getD, nl_get s j hlt, Option.getD_some]
      clear hdj hn
      go_wp2_with fail
      go_roundw
      case rel => exact ⟨trivial, j + 1, by go_num, by rw [HV.out]; exact congrArg (Value.int .i64) HS.out, by omega⟩
      case measure => simp [intOf]; omega
    · obtain rfl : j = s.size := by omega
      clear hlt hj
      go_wp2_with fail
      go_ret
      exact ⟨rfl, rfl⟩
end Go.Proofs.Ytmpahllkbpofnaa
