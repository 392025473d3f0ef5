/- Numbers and names without memory. -/
import Derived.Test.YtmpahllkbpofnaaYa
namespace Go.Proofs.Ytmpahllkbpofnaa.Y
open Go
theorem dig_lt {d : List Nat} (h : ∀ c ∈ d, digitB c = true) : ∀ c ∈ d, c < 256 := fun c hc => by
  have := (dig_def c).1 (h c hc)
  omega
theorem cons_of {d : List Nat} (h : d ≠ []) : ∃ c x, d = c :: x := by
  cases d with
  | nil => exact absurd rfl h
  | cons c x => exact ⟨c, x, rfl⟩
theorem nl_sp {t : List Nat} (h : ∀ c ∈ t, c < 256) : nl (bytes (32 :: t)) = 32 :: t := nl_bytes fun c hc => by
  rcases List.mem_cons.1 hc with rfl | hc
  · decide
  · exact h c hc
theorem lex_num {d : List Nat} (h : ∀ c ∈ d, digitB c = true) (hne : d ≠ []) (h8 : d.length ≤ 7000) : lexR (bytes (32 :: d)) = if 18 < d.length then (1, [], 32) else (0, [mk 3 1 d, endT (bytes (32 :: d))], 0) := by
  have hz : (bytes (32 :: d)).size ≤ 8000 := by rw [size_bytes, List.length_cons]; omega
  obtain ⟨c, x, rfl⟩ := cons_of hne
  by_cases h18 : 18 < (c :: x).length
  · rw [if_pos h18]
    have := look_big (r := []) h h18 rfl
    rw [List.append_nil] at this
    exact lexR_bad1 (nl_sp (dig_lt h)) (by simp) hz this
  · rw [if_neg h18]
    exact lexR_one1 (.num c x h (by omega)) (nl_sp (dig_lt h)) hz
theorem lex_cplx {d : List Nat} {e : Nat} (he : e = 99 ∨ e = 105) (h : ∀ c ∈ d, digitB c = true) (hne : d ≠ []) (h8 : d.length ≤ 7000) : lexR (bytes (32 :: (d ++ [e]))) = if 15 < d.length then (1, [], 32) else (0, [mk 4 1 (d ++ [e]), endT (bytes (32 :: (d ++ [e])))], 0) := by
  have hz : (bytes (32 :: (d ++ [e]))).size ≤ 8000 := by rw [size_bytes, List.length_cons, List.length_append]; simp only [List.length_cons, List.length_nil]; omega
  have hlt : ∀ c ∈ d ++ [e], c < 256 := fun c hc => by
    rcases List.mem_append.1 hc with hc | hc
    · exact dig_lt h c hc
    · obtain rfl := List.mem_singleton.1 hc
      omega
  obtain ⟨c, x, rfl⟩ := cons_of hne
  by_cases h15 : 15 < (c :: x).length
  · rw [if_pos h15]
    exact lexR_bad1 (nl_sp hlt) (by simp) hz (look_bigc h h15 he (r := []))
  · rw [if_neg h15]
    exact lexR_one1 (.cplx c x e h (by omega) he) (nl_sp hlt) hz
theorem lex_numx {d : List Nat} (h : ∀ c ∈ d, digitB c = true) (hne : d ≠ []) (h8 : d.length ≤ 7000) : lexR (bytes (32 :: (d ++ [120]))) = if 18 < d.length then (1, [], 32) else (1, [], 180) := by
  have hz : (bytes (32 :: (d ++ [120]))).size ≤ 8000 := by rw [size_bytes, List.length_cons, List.length_append]; simp only [List.length_cons, List.length_nil]; omega
  have hlt : ∀ c ∈ d ++ [120], c < 256 := fun c hc => by
    rcases List.mem_append.1 hc with hc | hc
    · exact dig_lt h c hc
    · obtain rfl := List.mem_singleton.1 hc
      decide
  obtain ⟨c, x, rfl⟩ := cons_of hne
  by_cases h18 : 18 < (c :: x).length
  · rw [if_pos h18]
    exact lexR_bad1 (nl_sp hlt) (by simp) hz (look_big (r := [120]) h h18 rfl)
  · rw [if_neg h18]
    exact lexR_bad1 (nl_sp hlt) (by simp) hz (look_badn (r := []) h (by omega) rfl rfl (by decide) (by decide))
/-- Zeros ahead of a number change nothing. -/
theorem dec_zeros (z : Nat) (d : List Nat) : dec (List.replicate z 48 ++ d) = dec d := by
  induction z with
  | zero => rfl
  | succ z ih =>
    rw [List.replicate_succ, List.cons_append]
    exact ih
theorem zeros_dig {z : Nat} {d : List Nat} (h : ∀ c ∈ d, digitB c = true) : ∀ c ∈ List.replicate z 48 ++ d, digitB c = true := fun c hc => by
  rcases List.mem_append.1 hc with hc | hc
  · rw [List.eq_of_mem_replicate hc]
    rfl
  · exact h c hc
/-! ### Names and words -/
theorem let_lt {w : List Nat} (h : ∀ c ∈ w, letN c = true) : ∀ c ∈ w, c < 256 := fun c hc => by
  have := (letN_def c).1 (h c hc)
  omega
theorem lex_name {c : Nat} {x : List Nat} (h1 : letterB c true = true) (h2 : ∀ d ∈ c :: x, letN d = true) (h8 : (c :: x).length ≤ 7000) : lexR (bytes (c :: x)) = if 20 < (c :: x).length then (0, [], 32) else (0, [mk (if isWord (bytes (c :: x)) then 2 else 1) 0 (c :: x), endT (bytes (c :: x))], 0) := by
  have hz : (bytes (c :: x)).size ≤ 8000 := by rw [size_bytes]; omega
  have hn := nl_bytes (let_lt h2)
  by_cases h20 : 20 < (c :: x).length
  · rw [if_pos h20]
    have hl := look_long (r := []) h1 h2 h20
    rw [List.append_nil] at hl
    exact lexR_bad (by rw [size_bytes]; simp) hz (by rw [hn]; exact hl)
  · rw [if_neg h20]
    exact lexR_one (.word c x h1 h2 (by omega)) hn hz
/-- LexNames' names: so many letters of a1_$Z, round and round. -/
def nameL : Nat → List Nat
  | 0 => []
  | k + 1 => nameL k ++ [[97, 49, 95, 36, 90].getD (k % 5) 0]
theorem name_all : ∀ n < 26, ∃ x, nameL (n + 1) = 97 :: x ∧ (∀ d ∈ 97 :: x, letN d = true) ∧ (97 :: x).length = n + 1 := by
  have h : ∀ n < 26, (nameL (n + 1)).head? = some 97 ∧ (∀ d ∈ nameL (n + 1), letN d = true) ∧ (nameL (n + 1)).length = n + 1 := by decide +kernel
  intro n hn
  obtain ⟨h1, h2, h3⟩ := h n hn
  cases hl : nameL (n + 1) with
  | nil => rw [hl] at h1; simp at h1
  | cons c x =>
    rw [hl] at h1 h2 h3
    obtain rfl : c = 97 := by simpa using h1
    exact ⟨x, rfl, h2, h3⟩
theorem name_word : ∀ n < 26, isWord (bytes (nameL (n + 1))) = false ∧ isWord (bytes (nameL (n + 1) ++ [95])) = false := by decide +kernel
end Go.Proofs.Ytmpahllkbpofnaa.Y
