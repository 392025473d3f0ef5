/- What is read of what was written, without memory: a number, a count, a text. -/
import Derived.Test.YthncdbobjeeeaaaGreatDoorFace
namespace Go.Proofs.YthncdbobjeeeaaaGreatDoor

theorem ct_enc (n : Nat) (l : List Nat) (most : Int) (hn : n < 2 ^ 64) : ct (enc n ++ l) most = if most < (n : Int) then (0, 32, 0) else (n, 0, (enc n).length) := by
  unfold ct
  rw [rd_enc n l hn]
  rw [if_neg (by simp)]

theorem ct_big (n : Nat) (l : List Nat) (most : Int) (hn : n < 2 ^ 64) (h : most < (n : Int)) : ct (enc n ++ l) most = (0, 32, 0) := by rw [ct_enc n l most hn, if_pos h]

theorem ct_fits (n : Nat) (l : List Nat) (most : Int) (hn : n < 2 ^ 64) (h : ¬ most < (n : Int)) : ct (enc n ++ l) most = (n, 0, (enc n).length) := by rw [ct_enc n l most hn, if_neg h]

theorem tx_big (m l : List Nat) (most : Int) (hn : m.length < 2 ^ 64) (h : most < (m.length : Int)) : tx (enc m.length ++ (m ++ l)) most = ([], 32, 0) := by
  unfold tx
  rw [ct_big _ _ _ hn h, if_pos (by simp)]

theorem tx_fits (m l : List Nat) (most : Int) (hn : m.length < 2 ^ 64) (h : ¬ most < (m.length : Int)) : tx (enc m.length ++ (m ++ l)) most = (m, 0, (enc m.length).length + m.length) := by
  unfold tx
  rw [ct_fits _ _ _ hn h, if_neg (by simp)]
  simp only [List.drop_left, List.take_left]
  rw [if_neg (by simp)]

theorem bytes_enc (n : Nat) : ∀ c ∈ enc n, c < 256 := en_byte 9 n

theorem bytes_append {l m : List Nat} (hl : ∀ c ∈ l, c < 256) (hm : ∀ c ∈ m, c < 256) : ∀ c ∈ l ++ m, c < 256 := by
  intro c hc
  rcases List.mem_append.1 hc with h | h
  · exact hl c h
  · exact hm c h
end Go.Proofs.YthncdbobjeeeaaaGreatDoor
