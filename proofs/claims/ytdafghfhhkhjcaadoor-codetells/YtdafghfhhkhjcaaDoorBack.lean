/- What is read of what was written, without memory: a number, a count, a text. -/
import Derived.Test.YtdafghfhhkhjcaaDoorFace
namespace Go.Proofs.YtdafghfhhkhjcaaDoor

theorem ct_enc (n : Nat) (l : List Nat) (most : Int) (hn : n < 2 ^ 64) : ct (enc n ++ l) most = if most < (n : Int) then (0, 32, 0) else (n, 0, (enc n).length) := by
  unfold ct
  rw [rd_enc n l hn]
  rw [if_neg (by simp)]

theorem ct_big (n : Nat) (l : List Nat) (most : Int) (hn : n < 2 ^ 64) (h : most < (n : Int)) : ct (enc n ++ l) most = (0, 32, 0) := by rw [ct_enc n l most hn, if_pos h]

theorem ct_fits (n : Nat) (l : List Nat) (most : Int) (hn : n < 2 ^ 64) (h : ¬ most < (n : Int)) : ct (enc n ++ l) most = (n, 0, (enc n).length) := by rw [ct_enc n l most hn, if_neg h]

theorem bytes_enc (n : Nat) : ∀ c ∈ enc n, c < 256 := en_byte 9 n

theorem bytes_append {l m : List Nat} (hl : ∀ c ∈ l, c < 256) (hm : ∀ c ∈ m, c < 256) : ∀ c ∈ l ++ m, c < 256 := by
  intro c hc
  rcases List.mem_append.1 hc with h | h
  · exact hl c h
  · exact hm c h
end Go.Proofs.YtdafghfhhkhjcaaDoor
