/- What is cut off is too short: numbers and texts, without memory; and a slice's beginning. -/
import Derived.Test.YthncdbobjeeeaaaGreatDoorBack
namespace Go.Proofs.YthncdbobjeeeaaaGreatDoor

theorem rd_cut (f n i acc k : Nat) (hf : f + i = 9) (hn : n < 2 ^ (7 * f + 1)) (hk : k < (en f n).length) : rd ((en f n).take k) i acc = (0, 30, 0) := by
  induction f generalizing n i acc k with
  | zero =>
    have : k = 0 := by simp [en] at hk; omega
    subst this
    simp [rd]
  | succ f ih =>
    cases k with
    | zero => simp [rd]
    | succ k =>
      by_cases h : n < 128
      · rw [en_small _ n h] at hk
        simp at hk
      · rw [en_step f n (by omega)] at hk ⊢
        have hi : ¬ i = 9 := by omega
        rw [List.take_succ_cons, rd, if_neg (by simp [hi]), if_neg (by omega)]
        refine ih _ _ _ _ (by omega) ?_ (by simpa using hk)
        rw [show 7 * (f + 1) + 1 = 7 + (7 * f + 1) by omega, Nat.pow_add] at hn
        omega

theorem rd_cut_enc (n k : Nat) (hn : n < 2 ^ 64) (hk : k < (enc n).length) : rd ((enc n).take k) 0 0 = (0, 30, 0) := rd_cut 9 n 0 0 k rfl hn hk

theorem tx_cut (m : List Nat) (k : Nat) (most : Int) (hn : m.length < 2 ^ 64) (hm : ¬ most < (m.length : Int)) (hk : k < (enc m.length ++ m).length) : tx ((enc m.length ++ m).take k) most = ([], 30, 0) := by
  rw [List.take_append]
  by_cases h : k < (enc m.length).length
  · rw [show k - (enc m.length).length = 0 by omega, List.take_zero, List.append_nil]
    unfold tx ct
    rw [rd_cut_enc _ _ hn h]
    simp
  · rw [List.take_of_length_le (by omega)]
    unfold tx
    rw [ct_fits _ _ _ hn hm, if_neg (by simp)]
    simp only [List.drop_left]
    rw [List.length_append] at hk
    rw [if_pos (by rw [List.length_take]; omega)]

theorem tx_uncut (m l : List Nat) (k : Nat) (most : Int) (hn : m.length < 2 ^ 64) (hm : ¬ most < (m.length : Int)) (hk : ¬ k < (enc m.length ++ m).length) :
    tx (((enc m.length ++ m) ++ l).take k) most = (m, 0, (enc m.length ++ m).length) ∧ (((enc m.length ++ m) ++ l).take k).drop (enc m.length ++ m).length = l.take (k - (enc m.length ++ m).length) := by
  have e : (((enc m.length ++ m) ++ l).take k) = (enc m.length ++ m) ++ l.take (k - (enc m.length ++ m).length) := by
    rw [List.take_append, List.take_of_length_le (by omega)]
  rw [e]
  constructor
  · rw [List.append_assoc, tx_fits _ _ _ hn hm, List.length_append]
  · exact List.drop_left

theorem take_early (l m : List Nat) (k : Nat) (hk : k < l.length) : (l ++ m).take k = l.take k := by
  rw [List.take_append, show k - l.length = 0 by omega, List.take_zero, List.append_nil]

theorem Sl.take {w : World} {b off n cap : Nat} {l : List Nat} (h : Sl w (.slice (some ⟨b, off, none⟩) n cap) l) (k : Nat) (hk : k ≤ l.length) : Sl w (.slice (some ⟨b, off, none⟩) k cap) (l.take k) := by
  have hlen : (l.take k).length = k := by rw [List.length_take]; omega
  rcases h with ⟨b', off', cap', e, h1, h2, h3⟩ | ⟨rfl, ad, cap', e, h1, h2⟩
  · simp only [Value.slice.injEq, Option.some.injEq, Addr.mk.injEq, and_true] at e
    obtain ⟨⟨rfl, rfl⟩, rfl, rfl⟩ := e
    refine .inl ⟨b, off, cap, by rw [hlen], by omega, h2, fun i c hi => h3 i c ?_⟩
    rw [List.getElem?_take] at hi
    split at hi
    · exact hi
    · simp at hi
  · simp at hk
    subst hk
    simp only [Value.slice.injEq] at e
    obtain ⟨rfl, rfl, rfl⟩ := e
    exact .inr ⟨rfl, _, cap, rfl, h1, fun h => by simp at h⟩
end Go.Proofs.YthncdbobjeeeaaaGreatDoor
