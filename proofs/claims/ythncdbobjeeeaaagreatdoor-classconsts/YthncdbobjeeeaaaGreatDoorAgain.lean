/- What is written is read; what is cut off, or has a byte behind it, isn't: without memory. -/
import Derived.Test.YthncdbobjeeeaaaGreatDoorDocGet
import Derived.Test.YthncdbobjeeeaaaGreatDoorCut
namespace Go.Proofs.YthncdbobjeeeaaaGreatDoor

theorem one_zero (n : Nat) (m : Int) (h : od (n : Int) = 0) : one ((n : Int), m) = [n] := by unfold one; simp [h]
theorem one_pos (n m : Nat) (h : 0 < od (n : Int)) : one ((n : Int), (m : Int)) = n :: enc m := by unfold one; simp [h]

theorem od_is {op a : Int} (h : isb op a = true) : ∃ n m : Nat, n < 48 ∧ op = (n : Int) ∧ a = (m : Int) ∧ m ≤ 999 ∧ (od (n : Int) = 0 ∧ m = 0 ∨ 0 < od (n : Int)) := by
  obtain ⟨n, m, hn, rfl, rfl, hm⟩ := isb_in op a h
  refine ⟨n, m, hn, rfl, rfl, hm, ?_⟩
  unfold isb at h
  have h := of_decide_eq_true h
  omega

theorem rone_cons (c : Nat) (r : List Nat) : rone (c :: r) = if od (c : Int) = -1 then ((0, 0), 40, 0) else if od (c : Int) = 0 then (((c : Int), 0), 0, 1)
    else if (rd r 0 0).2.1 ≠ 0 then ((0, 0), (rd r 0 0).2.1, 0) else if 999 < (rd r 0 0).1 then ((0, 0), 40, 0) else (((c : Int), ((rd r 0 0).1 : Int)), 0, 1 + (rd r 0 0).2.2) := rfl

theorem rone_one (x : Int × Int) (r : List Nat) (h : isb x.1 x.2 = true) : rone (one x ++ r) = (x, 0, (one x).length) := by
  obtain ⟨op, a⟩ := x
  obtain ⟨n, m, hn, rfl, rfl, hm, hc⟩ := od_is h
  rcases hc with ⟨h0, rfl⟩ | hp
  · rw [one_zero n _ h0]
    show rone (n :: r) = _
    rw [rone_cons, if_neg (by omega), if_pos h0]
    rfl
  · rw [one_pos n m hp]
    show rone (n :: (enc m ++ r)) = _
    rw [rone_cons, if_neg (by omega), if_neg (by omega), rd_enc m r (by omega), if_neg (by simp), if_neg (by simp; omega)]
    simp [Nat.add_comm]

theorem fin_wri (l acc : List (Int × Int)) (r : List Nat) (h : allIs l = true) : fin acc l.length (wri l ++ r) = if r = [] then (acc ++ l, 0) else ([], 31) := by
  induction l generalizing acc with
  | nil => simp [wri, fin]
  | cons x l ih =>
    unfold allIs at h
    rw [List.all_cons, Bool.and_eq_true] at h
    have e : wri (x :: l) ++ r = one x ++ (wri l ++ r) := by simp [wri]
    rw [e, List.length_cons, fin, rone_one x _ h.1, if_neg (by simp)]
    simp only [List.drop_left]
    rw [ih (acc ++ [x]) h.2]
    simp

theorem gt_put (l : List (Int × Int)) (r : List Nat) (hl : l.length ≤ 200) (h : allIs l = true) : gt ((enc l.length ++ wri l) ++ r) = if r = [] then (l, 0) else ([], 31) := by
  unfold gt
  rw [List.append_assoc, ct_fits l.length (wri l ++ r) 200 (by omega) (by omega), if_neg (by simp)]
  simp only [List.drop_left]
  rw [fin_wri l [] r h]
  simp

theorem rone_cut (x : Int × Int) (k : Nat) (h : isb x.1 x.2 = true) (hk : k < (one x).length) : (rone ((one x).take k)).2.1 = 30 := by
  obtain ⟨op, a⟩ := x
  obtain ⟨n, m, hn, rfl, rfl, hm, hc⟩ := od_is h
  cases k with
  | zero => simp [rone]
  | succ k =>
    rcases hc with ⟨h0, rfl⟩ | hp
    · rw [one_zero n _ h0] at hk
      simp at hk
    · rw [one_pos n m hp] at hk ⊢
      rw [List.take_succ_cons]
      rw [rone_cons, if_neg (by omega), if_neg (by omega), rd_cut_enc m k (by omega) (by simpa using hk), if_pos (by simp)]

theorem fin_cut (l acc : List (Int × Int)) (k : Nat) (h : allIs l = true) (hk : k < (wri l).length) : (fin acc l.length ((wri l).take k)).2 = 30 := by
  induction l generalizing acc k with
  | nil => simp [wri] at hk
  | cons x l ih =>
    unfold allIs at h
    rw [List.all_cons, Bool.and_eq_true] at h
    have e : wri (x :: l) = one x ++ wri l := rfl
    rw [e] at hk ⊢
    rw [List.length_cons, fin]
    by_cases hc : k < (one x).length
    · rw [take_early _ _ _ hc, rone_cut x k h.1 hc, if_pos (by simp)]
    · have e2 : (one x ++ wri l).take k = one x ++ (wri l).take (k - (one x).length) := by rw [List.take_append, List.take_of_length_le (by omega)]
      rw [e2, rone_one x _ h.1, if_neg (by simp)]
      simp only [List.drop_left]
      rw [List.length_append] at hk
      exact ih (acc ++ [x]) _ h.2 (by omega)

theorem gt_cut (l : List (Int × Int)) (k : Nat) (hl : l.length ≤ 200) (h : allIs l = true) (hk : k < (enc l.length ++ wri l).length) : (gt ((enc l.length ++ wri l).take k)).2 = 30 := by
  unfold gt
  by_cases hc : k < (enc l.length).length
  · rw [take_early _ _ _ hc]
    have e : ct ((enc l.length).take k) 200 = (0, 30, 0) := by
      unfold ct
      rw [rd_cut_enc _ _ (by omega) hc, if_pos (by simp)]
    rw [e, if_pos (by simp)]
  · have e2 : (enc l.length ++ wri l).take k = enc l.length ++ (wri l).take (k - (enc l.length).length) := by rw [List.take_append, List.take_of_length_le (by omega)]
    rw [e2, ct_fits l.length _ 200 (by omega) (by omega), if_neg (by simp)]
    simp only [List.drop_left]
    rw [List.length_append] at hk
    exact fin_cut l [] _ h (by omega)

theorem wri_byte (l : List (Int × Int)) (h : allIs l = true) : ∀ c ∈ wri l, c < 256 := by
  induction l with
  | nil => intro c hc; simp [wri] at hc
  | cons x l ih =>
    unfold allIs at h
    rw [List.all_cons, Bool.and_eq_true] at h
    refine bytes_append ?_ (ih h.2)
    obtain ⟨op, a⟩ := x
    obtain ⟨n, m, hn, rfl, rfl, hm, hc⟩ := od_is h.1
    intro c hcm
    rcases hc with ⟨h0, rfl⟩ | hp
    · rw [one_zero n _ h0] at hcm
      simp at hcm
      omega
    · rw [one_pos n m hp] at hcm
      rcases List.mem_cons.1 hcm with rfl | hcm
      · omega
      · exact bytes_enc m c hcm

theorem put_byte (l : List (Int × Int)) (h : allIs l = true) : ∀ c ∈ enc l.length ++ wri l, c < 256 := bytes_append (bytes_enc _) (wri_byte l h)

theorem put_length (l : List (Int × Int)) (hl : l.length ≤ 200) : (enc l.length ++ wri l).length ≤ 2210 := by
  have := enc_length l.length
  have := wri_length l
  rw [List.length_append]
  omega
end Go.Proofs.YthncdbobjeeeaaaGreatDoor
