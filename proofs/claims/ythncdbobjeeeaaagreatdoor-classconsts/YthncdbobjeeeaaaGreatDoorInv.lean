/- Each thing is read in one form alone: numbers, texts, signs folded in, complex numbers, instructions: without memory. -/
import Derived.Test.YthncdbobjeeeaaaGreatDoorAgain
import Derived.Test.YthncdbobjeeeaaaGreatDoorReadCplx
namespace Go.Proofs.YthncdbobjeeeaaaGreatDoor

theorem rd_inv (l : List Nat) : ∀ (i f acc m k : Nat), i + f = 9 → rd l i acc = (m, 0, k) → (∀ c ∈ l, c < 256) →
    ∃ n, m = acc + n * 2 ^ (7 * i) ∧ n < 2 ^ (64 - 7 * i) ∧ l = en f n ++ l.drop (k - i) ∧ (0 < i → 0 < n) ∧ i ≤ k := by
  induction l with
  | nil => intro i f acc m k _ h _; simp [rd] at h
  | cons c cs ih =>
    intro i f acc m k hf h hl
    have hc := hl c (by simp)
    unfold rd at h
    split at h
    · simp at h
    · rename_i h9
      split at h
      · rename_i h128
        split at h
        · simp at h
        · rename_i h0
          simp only [Prod.mk.injEq, true_and] at h
          obtain ⟨rfl, rfl⟩ := h
          refine ⟨c, rfl, ?_, ?_, fun hi => Nat.pos_of_ne_zero (fun e => h0 ⟨hi, e⟩), by omega⟩
          · by_cases hi : i = 9
            · have : c = 1 := Classical.byContradiction fun e => h9 ⟨hi, e⟩
              subst this hi
              decide
            · exact Nat.lt_of_lt_of_le h128 (by
                have : (2 : Nat) ^ 7 ≤ 2 ^ (64 - 7 * i) := Nat.pow_le_pow_right (by omega) (by omega)
                simpa using this)
          · rw [en_small f c h128, show i + 1 - i = 1 by omega]
            rfl
      · rename_i h128
        have hi9 : i ≠ 9 := fun e => h9 ⟨e, by omega⟩
        obtain ⟨g, rfl⟩ : ∃ g, f = g + 1 := ⟨f - 1, by omega⟩
        obtain ⟨n', e1, e2, e3, e4, e5⟩ := ih (i + 1) g _ m k (by omega) h (fun d hd => hl d (by simp [hd]))
        have hn' := e4 (by omega)
        refine ⟨n' * 128 + (c - 128), ?_, ?_, ?_, fun _ => by omega, by omega⟩
        · rw [e1, show 7 * (i + 1) = 7 + 7 * i by omega, Nat.pow_add]
          generalize 2 ^ (7 * i) = p
          rw [Nat.add_mul, show n' * 128 * p = n' * (2 ^ 7 * p) by rw [Nat.mul_assoc]]
          omega
        · have : (2 : Nat) ^ (64 - 7 * i) = 128 * 2 ^ (64 - 7 * (i + 1)) := by rw [show 64 - 7 * i = 7 + (64 - 7 * (i + 1)) by omega, Nat.pow_add]
          omega
        · rw [en_step g _ (by omega), show (n' * 128 + (c - 128)) % 128 + 128 = c by omega, show (n' * 128 + (c - 128)) / 128 = n' by omega]
          have hk : k - i = (k - (i + 1)) + 1 := by omega
          rw [hk, List.drop_succ_cons, List.cons_append, ← e3]

theorem rd_enc_inv (l : List Nat) (hl : ∀ c ∈ l, c < 256) (h : (rd l 0 0).2.1 = 0) : l = enc (rd l 0 0).1 ++ l.drop (rd l 0 0).2.2 ∧ (rd l 0 0).1 < 2 ^ 64 := by
  obtain ⟨n, e1, e2, e3, _, _⟩ := rd_inv l 0 9 0 (rd l 0 0).1 (rd l 0 0).2.2 rfl (Prod.ext rfl (Prod.ext h rfl)) hl
  have e : (rd l 0 0).1 = n := by simpa using e1
  rw [e]
  exact ⟨by simpa [enc] using e3, by simpa using e2⟩

theorem ct_inv (l : List Nat) (most : Int) (hl : ∀ c ∈ l, c < 256) (h : (ct l most).2.1 = 0) : l = enc (ct l most).1 ++ l.drop (ct l most).2.2 ∧ (ct l most).1 < 2 ^ 64 ∧ ((ct l most).1 : Int) ≤ most := by
  unfold ct at h ⊢
  by_cases hx : (rd l 0 0).2.1 = 0
  · rw [if_neg (by simpa using hx)] at h ⊢
    by_cases hy : most < ((rd l 0 0).1 : Int)
    · rw [if_pos hy] at h; simp at h
    · rw [if_neg hy]
      have := rd_enc_inv l hl hx
      exact ⟨this.1, this.2, by omega⟩
  · rw [if_pos hx] at h; exact absurd h hx

theorem tx_inv (l : List Nat) (most : Int) (hl : ∀ c ∈ l, c < 256) (h : (tx l most).2.1 = 0) : l = (enc (tx l most).1.length ++ (tx l most).1) ++ l.drop (tx l most).2.2 ∧ ((tx l most).1.length : Int) ≤ most ∧ (∀ c ∈ (tx l most).1, c < 256) := by
  have C := ct_inv l most hl
  unfold tx at h ⊢
  by_cases hx : (ct l most).2.1 = 0
  · rw [if_neg (by simpa using hx)] at h ⊢
    obtain ⟨e1, e2, e3⟩ := C hx
    by_cases hy : (l.drop (ct l most).2.2).length < (ct l most).1
    · rw [if_pos hy] at h; simp at h
    · rw [if_neg hy]
      simp only []
      have hlen : ((l.drop (ct l most).2.2).take (ct l most).1).length = (ct l most).1 := by rw [List.length_take]; omega
      rw [hlen]
      refine ⟨?_, e3, fun c hc => hl c (List.mem_of_mem_drop (List.mem_of_mem_take hc))⟩
      rw [List.append_assoc, ← List.drop_drop, List.take_append_drop]
      exact e1
  · rw [if_pos hx] at h; exact absurd h hx

theorem fo_unf (u : Nat) : fo (unf u) = u := by
  unfold fo unf
  by_cases h : u % 2 = 1
  · rw [if_pos h, if_pos (by omega)]
    omega
  · rw [if_neg h, if_neg (by omega)]
    omega
theorem unf_range (u : Nat) (h : u < 2 ^ 64) : -9223372036854775808 ≤ unf u ∧ unf u ≤ 9223372036854775807 := by
  unfold unf
  split <;> omega

theorem va_le (n : Nat) : ∀ (j : Nat) (r : List Nat), va (le n j ++ r) j = n % 256 ^ j := by
  intro j
  induction j with
  | zero => intro r; simp [va, Nat.mod_one]
  | succ j ih =>
    intro r
    have e : le n (j + 1) ++ r = le n j ++ ([n / 256 ^ j % 256] ++ r) := by simp [le]
    rw [e, va, ih, List.getD_eq_getElem?_getD, List.getElem?_append_right (by rw [le_length]; omega), le_length, Nat.sub_self]
    simp only [List.singleton_append, List.getElem?_cons_zero, Option.getD_some]
    rw [Nat.pow_succ, Nat.mod_mul, show (2 : Nat) ^ (8 * j) = 256 ^ j by rw [Nat.pow_mul], Nat.mul_comm]

theorem va_mod (l : List Nat) (hl : ∀ c ∈ l, c < 256) (i d : Nat) : va l (i + d) % 256 ^ i = va l i := by
  have hlt : ∀ j, va l j < 256 ^ j := fun j => by have := va_lt l hl j; rwa [Nat.pow_mul] at this
  induction d with
  | zero => exact Nat.mod_eq_of_lt (hlt i)
  | succ d ih =>
    rw [show i + (d + 1) = (i + d) + 1 by omega, va, show (2 : Nat) ^ (8 * (i + d)) = 256 ^ d * 256 ^ i by rw [Nat.pow_mul, ← Nat.pow_add, Nat.add_comm], ← Nat.mul_assoc, Nat.add_mul_mod_self_right]
    exact ih

theorem le_va (l : List Nat) (hl : ∀ c ∈ l, c < 256) (hlen : 8 ≤ l.length) : ∀ j, j ≤ 8 → le (va l 8) j = l.take j := by
  intro j
  induction j with
  | zero => intro _; simp [le]
  | succ j ih =>
    intro hj
    have hlt : ∀ j, va l j < 256 ^ j := fun j => by have := va_lt l hl j; rwa [Nat.pow_mul] at this
    obtain ⟨c, hc⟩ : ∃ c, l[j]? = some c := ⟨_, List.getElem?_eq_getElem (by omega)⟩
    have e : va l 8 / 256 ^ j % 256 = c := by
      have h1 := va_mod l hl (j + 1) (8 - (j + 1))
      rw [show j + 1 + (8 - (j + 1)) = 8 by omega] at h1
      have h2 : va l 8 % (256 ^ j * 256) / 256 ^ j = va l 8 / 256 ^ j % 256 := Nat.mod_mul_right_div_self _ _ _
      rw [← h2, ← Nat.pow_succ, h1, va, List.getD_eq_getElem?_getD, hc, show (2 : Nat) ^ (8 * j) = 256 ^ j by rw [Nat.pow_mul]]
      simp only [Option.getD_some]
      rw [Nat.add_mul_div_right _ _ (Nat.pow_pos (by omega)), Nat.div_eq_of_lt (hlt j), Nat.zero_add]
    rw [le, ih (by omega), e, take_next l j c hc]

theorem cxd_inv (l : List Nat) (hl : ∀ c ∈ l, c < 256) (h : (cxd l).2.2.1 = 0) : l = (le (cxd l).1 8 ++ le (cxd l).2.1 8) ++ l.drop (cxd l).2.2.2 ∧ (cxd l).1 < 2 ^ 64 ∧ (cxd l).2.1 < 2 ^ 64 := by
  unfold cxd at h ⊢
  by_cases hx : l.length < 16
  · rw [if_pos hx] at h; simp at h
  · rw [if_neg hx]
    simp only []
    have hd : ∀ c ∈ l.drop 8, c < 256 := fun c hc => hl c (List.mem_of_mem_drop hc)
    rw [le_va l hl (by omega) 8 (by omega), le_va (l.drop 8) hd (by rw [List.length_drop]; omega) 8 (by omega)]
    refine ⟨?_, va_lt l hl 8, va_lt _ hd 8⟩
    have e : (l.drop 8).take 8 ++ l.drop 16 = l.drop 8 := by
      have := List.take_append_drop 8 (l.drop 8)
      rwa [List.drop_drop] at this
    rw [List.append_assoc, e, List.take_append_drop]

theorem cxd_le (a b : Nat) (r : List Nat) (ha : a < 2 ^ 64) (hb : b < 2 ^ 64) : cxd ((le a 8 ++ le b 8) ++ r) = (a, b, 0, 16) := by
  unfold cxd
  have hl : ((le a 8 ++ le b 8) ++ r).length = 16 + r.length := by simp [le_length]; omega
  rw [if_neg (by rw [hl]; omega)]
  have e1 : va ((le a 8 ++ le b 8) ++ r) 8 = a := by
    rw [List.append_assoc, va_le]
    exact Nat.mod_eq_of_lt (by simpa using ha)
  have e2 : ((le a 8 ++ le b 8) ++ r).drop 8 = le b 8 ++ r := by
    rw [List.append_assoc, List.drop_append_of_le_length (by rw [le_length]; omega), List.drop_of_length_le (by rw [le_length]; omega), List.nil_append]
  have e3 : va (le b 8 ++ r) 8 = b := by
    rw [va_le]
    exact Nat.mod_eq_of_lt (by simpa using hb)
  rw [e1, e2, e3]

/-! ### Instructions -/
theorem rone_inv (r : List Nat) (hl : ∀ c ∈ r, c < 256) (h : (rone r).2.1 = 0) : r = one (rone r).1 ++ r.drop (rone r).2.2 ∧ isb (rone r).1.1 (rone r).1.2 = true := by
  cases r with
  | nil => simp [rone] at h
  | cons c r =>
    rw [rone_cons] at h ⊢
    rcases od_cases (c : Int) with e | e | ⟨e1, e2⟩
    · rw [if_pos e] at h; simp at h
    · rw [if_neg (by omega), if_pos e]
      refine ⟨?_, ?_⟩
      · simp only []
        rw [one_zero c 0 e]
        rfl
      · rw [isb_zero _ _ e]
        rfl
    · rw [if_neg (by omega), if_neg (by omega)] at h ⊢
      by_cases hx : (rd r 0 0).2.1 = 0
      · rw [if_neg (by simpa using hx)] at h ⊢
        by_cases hy : 999 < (rd r 0 0).1
        · rw [if_pos hy] at h; simp at h
        · rw [if_neg hy]
          have hi := rd_enc_inv r (fun d hd => hl d (by simp [hd])) hx
          refine ⟨?_, ?_⟩
          · simp only []
            rw [one_pos c _ e1, Nat.add_comm 1, List.drop_succ_cons, List.cons_append, ← hi.1]
          · rw [isb_pos _ _ e1]
            simp only [decide_eq_true_eq]
            omega
      · rw [if_pos hx] at h; exact absurd h hx

theorem fin_inv (n : Nat) : ∀ (acc : List (Int × Int)) (r : List Nat) (L : List (Int × Int)), (∀ c ∈ r, c < 256) → fin acc n r = (L, 0) → ∃ M, L = acc ++ M ∧ M.length = n ∧ allIs M = true ∧ r = wri M := by
  induction n with
  | zero =>
    intro acc r L hl h
    unfold fin at h
    by_cases hr : r = []
    · rw [if_pos hr] at h
      simp only [Prod.mk.injEq, and_true] at h
      exact ⟨[], by simp [h], rfl, rfl, hr⟩
    · rw [if_neg hr] at h; simp at h
  | succ n ih =>
    intro acc r L hl h
    unfold fin at h
    by_cases hx : (rone r).2.1 = 0
    · rw [if_neg (by simpa using hx)] at h
      obtain ⟨e1, e2⟩ := rone_inv r hl hx
      obtain ⟨M, g1, g2, g3, g4⟩ := ih _ _ L (fun c hc => hl c (List.mem_of_mem_drop hc)) h
      refine ⟨(rone r).1 :: M, by rw [g1]; simp, by simp [g2], ?_, ?_⟩
      · unfold allIs at g3 ⊢
        rw [List.all_cons, e2, g3]
        rfl
      · show r = one (rone r).1 ++ wri M
        rw [← g4]
        exact e1
    · rw [if_pos hx] at h
      simp only [Prod.mk.injEq] at h
      exact absurd h.2 hx

theorem gt_inv (b : List Nat) (hb : ∀ c ∈ b, c < 256) (h : (gt b).2 = 0) : b = ptB (gt b).1 ∧ (gt b).1.length ≤ 200 ∧ allIs (gt b).1 = true := by
  have C := ct_inv b 200 hb
  unfold gt at h ⊢
  by_cases hx : (ct b 200).2.1 = 0
  · rw [if_neg (by simpa using hx)] at h ⊢
    obtain ⟨e1, e2, e3⟩ := C hx
    obtain ⟨M, g1, g2, g3, g4⟩ := fin_inv (ct b 200).1 [] (b.drop (ct b 200).2.2) _ (fun c hc => hb c (List.mem_of_mem_drop hc)) (Prod.ext rfl h)
    rw [List.nil_append] at g1
    have g1' : (fin [] (ct b 200).1 (b.drop (ct b 200).2.2)).fst = M := g1
    rw [g1']
    refine ⟨?_, by omega, g3⟩
    unfold ptB
    rw [if_pos ⟨by omega, g3⟩, g2, ← g4]
    exact e1
  · rw [if_pos hx] at h; exact absurd h hx

theorem gt_ptB (l : List (Int × Int)) (h1 : l.length ≤ 200) (h2 : allIs l = true) : gt (ptB l) = (l, 0) := by
  have e : ptB l = (enc l.length ++ wri l) ++ [] := by unfold ptB; rw [if_pos ⟨h1, h2⟩, List.append_nil]
  rw [e, gt_put l [] h1 h2, if_pos rfl]
end Go.Proofs.YthncdbobjeeeaaaGreatDoor
