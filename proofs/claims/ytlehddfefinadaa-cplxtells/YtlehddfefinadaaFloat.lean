/- Floats of 64 bits as the model reckons with them: which are NaNs, when two are alike, which stand for whole numbers, and that sums, differences and products of small whole numbers are exact; no program is spoken of. -/
import Derived.Test.YtlehddfefinadaaRows
import Derived.WalkKit
import Derived.ProofKit
import Derived.OpenShut
import Derived.WalkLawsBesides
namespace Go.Proofs.Ytlehddfefinadaa
open Ieee

def nan (b : Nat) : Prop := (double.read b).isNaN = true

/-- What an operation hands back: its bits, or a NaN. -/
def Out (o : Option Nat) (r : Nat) : Prop := (∀ v, o = some v → r = v) ∧ (o = none → nan r)

theorem Out.some {v r : Nat} (h : Out (some v) r) : r = v := h.1 v rfl
theorem out_some (v : Nat) : Out (some v) v := ⟨fun _ h => by cases h; rfl, fun h => by cases h⟩
theorem out_none {r : Nat} (h : nan r) : Out none r := ⟨fun _ h => by (cases h), fun _ => h⟩

/-- Alike: the same bits, or two NaNs. -/
def Alk (a b : Nat) : Prop := a = b ∨ (nan a ∧ nan b)

theorem Alk.refl (a : Nat) : Alk a a := Or.inl rfl

theorem nan_read {b : Nat} (h : nan b) : ∃ s t, double.read b = .nan s t := by
  unfold nan at h
  cases e : double.read b <;> simp [e, Datum.isNaN] at h ⊢

theorem add_nan_l {a b : Nat} (h : nan a) : double.add a b = none := by
  obtain ⟨s, t, e⟩ := nan_read h
  simp [Format.add, e, Datum.sum]
theorem add_nan_r {a b : Nat} (h : nan b) : double.add a b = none := by
  obtain ⟨s, t, e⟩ := nan_read h
  cases e2 : double.read a <;> simp [Format.add, e, e2, Datum.sum]
theorem sub_nan_l {a b : Nat} (h : nan a) : double.sub a b = none := by
  obtain ⟨s, t, e⟩ := nan_read h
  simp [Format.sub, e, Datum.sum]
theorem sub_nan_r {a b : Nat} (h : nan b) : double.sub a b = none := by
  obtain ⟨s, t, e⟩ := nan_read h
  cases e2 : double.read a <;> simp [Format.sub, e, e2, Datum.sum, Datum.opposite]

theorem out_alk {o : Option Nat} {r s : Nat} (h : Out o r) (k : Out o s) : Alk r s := by
  cases o with
  | none => exact Or.inr ⟨h.2 rfl, k.2 rfl⟩
  | some v => exact Or.inl ((h.1 v rfl).trans (k.1 v rfl).symm)

theorem add_alk {a a' b b' r r' : Nat} (ha : Alk a a') (hb : Alk b b') (h : Out (double.add a b) r) (h' : Out (double.add a' b') r') : Alk r r' := by
  rcases ha with rfl | ⟨n1, n2⟩
  · rcases hb with rfl | ⟨n1, n2⟩
    · exact out_alk h h'
    · rw [add_nan_r n1] at h; rw [add_nan_r n2] at h'; exact out_alk h h'
  · rw [add_nan_l n1] at h; rw [add_nan_l n2] at h'; exact out_alk h h'
theorem sub_alk {a a' b b' r r' : Nat} (ha : Alk a a') (hb : Alk b b') (h : Out (double.sub a b) r) (h' : Out (double.sub a' b') r') : Alk r r' := by
  rcases ha with rfl | ⟨n1, n2⟩
  · rcases hb with rfl | ⟨n1, n2⟩
    · exact out_alk h h'
    · rw [sub_nan_r n1] at h; rw [sub_nan_r n2] at h'; exact out_alk h h'
  · rw [sub_nan_l n1] at h; rw [sub_nan_l n2] at h'; exact out_alk h h'

theorem order_self_nan {b : Nat} (h : nan b) (c : Nat) : double.order b c = none := by
  obtain ⟨s, t, e⟩ := nan_read h
  simp [Format.order, e, Datum.order]
theorem order_self {b : Nat} (h : ¬ nan b) : double.order b b = some .eq := by
  unfold nan at h
  unfold Format.order
  cases e : double.read b with
  | nan s t => simp [e, Datum.isNaN] at h
  | infinity s => simp [Datum.order]
  | number s m i => simp [Datum.order]

theorem order_neq_nan (b : Nat) : (double.order b b != some .eq) = true ↔ nan b := by
  by_cases h : nan b
  · simp [order_self_nan h, h]
  · simp [order_self h, h]

theorem order_alk {a b : Nat} (h : Alk a b) (hn : ¬ nan a) : double.order a b = some .eq := by
  rcases h with rfl | ⟨n, _⟩
  · exact order_self hn
  · exact absurd n hn

theorem nan_cut (x y t : Nat) : nan (Question.cut (.nanBits .f64 x y) t) := by
  unfold nan
  have e : Question.cut (.nanBits .f64 x y) t = (t % 2) * 2 ^ 63 + 0x7ff0000000000000 + 1 + (t / 2) % (2 ^ 52 - 1) := rfl
  rw [e]
  have h1 : t % 2 < 2 := Nat.mod_lt _ (by omega)
  have h2 : (t / 2) % (2 ^ 52 - 1) < 2 ^ 52 - 1 := Nat.mod_lt _ (by omega)
  generalize (t / 2) % (2 ^ 52 - 1) = u at *
  generalize t % 2 = v at *
  have es : double.signWeight = 9223372036854775808 := by decide
  have eb : double.binade = 4503599627370496 := by decide
  have ei : double.infRung = 9218868437227405312 := by decide
  unfold Format.read
  rw [es, eb, ei]
  have e1 : (v * 2 ^ 63 + 0x7ff0000000000000 + 1 + u) % 9223372036854775808 = 9218868437227405312 + 1 + u := by omega
  rw [e1]
  simp only []
  rw [if_neg (by omega), if_neg (by omega), if_neg (by omega)]
  rfl

/-! ### whole numbers -/

theorem least : double.leastPlace = -1074 := by decide
theorem log2_shift (n k : Nat) (h : n ≠ 0) : (n * 2 ^ k).log2 = n.log2 + k := by
  have hp : 0 < 2 ^ k := Nat.pow_pos (by omega)
  refine (Nat.log2_eq_iff (Nat.mul_ne_zero h (by omega))).2 ⟨?_, ?_⟩
  · rw [Nat.pow_add]; exact Nat.mul_le_mul_right _ (Nat.log2_self_le h)
  · have e : n.log2 + k + 1 = (n.log2 + 1) + k := by omega
    rw [e, Nat.pow_add]; exact Nat.mul_lt_mul_of_pos_right Nat.lt_log2_self hp

theorem cut_zero (neg : Bool) (n : Nat) : Toward.even.cut neg n 0 = n := by
  unfold Toward.cut
  simp [Nat.shiftLeft_eq, Nat.mod_one]

theorem cut_exact (neg : Bool) (m d : Nat) (h : m ≠ 0) : Toward.even.cut neg (m * 2 ^ d) d = m := by
  unfold Toward.cut
  have e : min d ((m * 2 ^ d).log2 + 2) = d := by rw [log2_shift m d h]; omega
  rw [e]
  have hp : 0 < 2 ^ d := Nat.pow_pos (by omega)
  simp only [Nat.shiftLeft_eq, Nat.one_mul, Nat.mul_div_cancel m hp, Nat.mul_mod_left, Nat.mul_zero]
  have : (2 ^ d == 0) = false := by simp
  simp [this]

/-- The rung of a whole number. -/
def rungOf (n : Nat) : Nat := if n = 0 then 0 else (n.log2 + 1022) * 2 ^ 52 + n * 2 ^ (52 - n.log2)

theorem log2_small {n : Nat} (h : n < 2 ^ 53) (h0 : n ≠ 0) : n.log2 ≤ 52 := by
  have := (Nat.log2_lt h0).2 h
  omega

theorem signif {n : Nat} (h : n < 2 ^ 53) (h0 : n ≠ 0) : 2 ^ 52 ≤ n * 2 ^ (52 - n.log2) ∧ n * 2 ^ (52 - n.log2) < 2 ^ 53 := by
  have hl := log2_small h h0
  have h1 : 2 ^ n.log2 ≤ n := Nat.log2_self_le h0
  have h2 : n < 2 ^ (n.log2 + 1) := Nat.lt_log2_self
  generalize n.log2 = L at *
  have e1 : (2 : Nat) ^ L * 2 ^ (52 - L) = 2 ^ 52 := by rw [← Nat.pow_add]; congr 1; omega
  have e2 : (2 : Nat) ^ (L + 1) * 2 ^ (52 - L) = 2 ^ 53 := by rw [← Nat.pow_add]; congr 1; omega
  have hp : 0 < 2 ^ (52 - L) := Nat.pow_pos (by omega)
  refine ⟨?_, ?_⟩
  · rw [← e1]; exact Nat.mul_le_mul_right _ h1
  · rw [← e2]; exact Nat.mul_lt_mul_of_pos_right h2 hp

theorem nearest_whole (neg : Bool) (n k : Nat) (h : n < 2 ^ 53) : double.nearest neg (n * 2 ^ k) (-(k : Int)) = double.word neg (rungOf n) := by
  have es : double.signWeight = 9223372036854775808 := by decide
  have eb : double.binade = 4503599627370496 := by decide
  have ei : double.infRung = 9218868437227405312 := by decide
  have ef : double.fractionBits = 52 := rfl
  by_cases h0 : n = 0
  · subst h0; simp [Format.nearest, rungOf]
  · have hk : n * 2 ^ k ≠ 0 := by
      have : 0 < 2 ^ k := Nat.pow_pos (by omega)
      exact Nat.mul_ne_zero h0 (by omega)
    have hl := log2_small h h0
    obtain ⟨hs1, hs2⟩ := signif h h0
    unfold Format.nearest rungOf
    rw [if_neg hk, if_neg h0, log2_shift n k h0, least, ef, eb, ei]
    generalize hL : n.log2 = L at *
    have elast : max (-(k : Int) + ((L + k : Nat) : Int) - ((52 : Nat) : Int)) (-1074) = (L : Int) - 52 := by omega
    simp only [elast]
    have e1 : ((L : Int) - 52 - -1074).toNat = L + 1022 := by omega
    rw [e1]
    by_cases hc : k ≤ 52 - L
    · have e2 : (-(k : Int) - ((L : Int) - 52)).toNat = 52 - L - k := by omega
      have e3 : ((L : Int) - 52 - -(k : Int)).toNat = 0 := by omega
      rw [e2, e3, cut_zero, Nat.shiftLeft_eq, Nat.mul_assoc, ← Nat.pow_add]
      have e4 : k + (52 - L - k) = 52 - L := by omega
      rw [e4, Nat.min_eq_left (by omega)]
    · have e2 : (-(k : Int) - ((L : Int) - 52)).toNat = 0 := by omega
      have e3 : ((L : Int) - 52 - -(k : Int)).toNat = k - (52 - L) := by omega
      have e5 : n * 2 ^ k = (n * 2 ^ (52 - L)) * 2 ^ (k - (52 - L)) := by
        rw [Nat.mul_assoc, ← Nat.pow_add]; congr 2; omega
      rw [e2, e3, Nat.shiftLeft_zero, e5, cut_exact _ _ _ (by omega), Nat.min_eq_left (by omega)]

theorem read_word (neg : Bool) {r : Nat} (h : r < 9223372036854775808) : double.word neg r / 9223372036854775808 % 2 = neg.toNat ∧ double.word neg r % 9223372036854775808 = r := by
  have es : double.signWeight = 9223372036854775808 := by decide
  unfold Format.word
  rw [es]
  cases neg <;> simp <;> omega

theorem read_whole (neg : Bool) (n : Nat) (h : n < 2 ^ 53) : ∃ k : Nat, double.read (double.word neg (rungOf n)) = .number neg (n * 2 ^ k) (-(k : Int)) := by
  have es : double.signWeight = 9223372036854775808 := by decide
  have eb : double.binade = 4503599627370496 := by decide
  have ei : double.infRung = 9218868437227405312 := by decide
  by_cases h0 : n = 0
  · subst h0
    have key : ∀ k : Nat, k = 1074 → double.read (double.word neg (rungOf 0)) = .number neg (0 * 2 ^ k) (-(k : Int)) := by
      intro k hk
      rw [Nat.zero_mul, hk]
      cases neg <;> decide
    exact ⟨_, key _ rfl⟩
  · have hl := log2_small h h0
    obtain ⟨hs1, hs2⟩ := signif h h0
    refine ⟨52 - n.log2, ?_⟩
    have hr : rungOf n = (n.log2 + 1022) * 4503599627370496 + n * 2 ^ (52 - n.log2) := by unfold rungOf; rw [if_neg h0]
    have hlt : rungOf n < 9218868437227405312 := by rw [hr]; omega
    obtain ⟨q1, q2⟩ := read_word neg (r := rungOf n) (by omega)
    unfold Format.read
    rw [es, eb, ei, q1, q2, least, hr]
    generalize hS : n * 2 ^ (52 - n.log2) = S at *
    generalize n.log2 = L at *
    simp only []
    rw [if_neg (by omega), if_pos (by omega)]
    have e1 : ((L + 1022) * 4503599627370496 + S) / 4503599627370496 = L + 1023 := by omega
    have e2 : 4503599627370496 + ((L + 1022) * 4503599627370496 + S) % 4503599627370496 = S := by omega
    have e3 : (-1074 : Int) + ((L + 1023 - 1 : Nat) : Int) = -((52 - L : Nat) : Int) := by omega
    have e4 : (neg.toNat == 1) = neg := by cases neg <;> rfl
    rw [e1, e2, e3, e4]

/-- These bits stand for this whole number (a zero of either sign for 0). -/
def Rep (b : Nat) (n : Int) : Prop := ∃ s : Bool, b = double.word s (rungOf n.natAbs) ∧ (n ≠ 0 → s = decide (n < 0))

def small (n : Int) : Prop := n.natAbs < 2 ^ 53

theorem rep_read {b : Nat} {n : Int} (h : Rep b n) (hn : small n) : ∃ (s : Bool) (k : Nat), double.read b = .number s (n.natAbs * 2 ^ k) (-(k : Int)) ∧ (n ≠ 0 → s = decide (n < 0)) := by
  obtain ⟨s, rfl, hs⟩ := h
  obtain ⟨k, e⟩ := read_whole s n.natAbs hn
  exact ⟨s, k, e, hs⟩

theorem rep_write {s : Bool} {n : Int} (k : Nat) (hn : small n) (hs : n ≠ 0 → s = decide (n < 0)) : Rep (double.write (.number s (n.natAbs * 2 ^ k) (-(k : Int)))) n :=
  ⟨s, by simp only [Format.write]; exact nearest_whole s _ k hn, hs⟩

theorem signed_eq (s : Bool) (n : Int) (hs : n ≠ 0 → s = decide (n < 0)) (i j : Nat) : signed s (n.natAbs * 2 ^ i) j = n * 2 ^ (i + j) := by
  unfold signed
  rw [Nat.shiftLeft_eq, Nat.mul_assoc, ← Nat.pow_add]
  by_cases h0 : n = 0
  · subst h0; cases s <;> simp
  · rw [hs h0]
    by_cases hneg : n < 0
    · simp only [hneg, decide_true, if_true]
      rw [Int.natCast_mul, Int.natCast_pow]
      have : (n.natAbs : Int) = -n := by omega
      rw [this]; simp [Int.neg_mul]
    · simp only [hneg, decide_false, Bool.false_eq_true, if_false]
      rw [Int.natCast_mul, Int.natCast_pow]
      have : (n.natAbs : Int) = n := by omega
      rw [this]; simp

theorem sum_whole {s t : Bool} {n m : Int} {i j : Nat} (hs : n ≠ 0 → s = decide (n < 0)) (ht : m ≠ 0 → t = decide (m < 0)) :
    ∃ u : Bool, Datum.sum (.number s (n.natAbs * 2 ^ i) (-(i : Int))) (.number t (m.natAbs * 2 ^ j) (-(j : Int))) = some (.number u ((n + m).natAbs * 2 ^ (max i j)) (-((max i j : Nat) : Int))) ∧ (n + m ≠ 0 → u = decide (n + m < 0)) := by
  have eb : min (-(i : Int)) (-(j : Int)) = -((max i j : Nat) : Int) := by omega
  have e1 : (-(i : Int) - -((max i j : Nat) : Int)).toNat = max i j - i := by omega
  have e2 : (-(j : Int) - -((max i j : Nat) : Int)).toNat = max i j - j := by omega
  have e3 : i + (max i j - i) = max i j := by omega
  have e4 : j + (max i j - j) = max i j := by omega
  have hp : (0 : Int) < 2 ^ (max i j) := Int.pow_pos (by omega)
  have et : signed s (n.natAbs * 2 ^ i) (max i j - i) + signed t (m.natAbs * 2 ^ j) (max i j - j) = (n + m) * 2 ^ (max i j) := by
    rw [signed_eq s n hs, signed_eq t m ht, e3, e4, Int.add_mul]
  have ea : ((n + m) * 2 ^ (max i j)).natAbs = (n + m).natAbs * 2 ^ (max i j) := by
    rw [Int.natAbs_mul, Int.natAbs_pow]; rfl
  simp only [Datum.sum, eb, e1, e2, et, ea]
  refine ⟨_, rfl, ?_⟩
  intro h
  have hne : ¬ ((n + m) * 2 ^ (max i j) = 0) := by
    intro h2
    rcases Int.mul_eq_zero.1 h2 with h3 | h3
    · exact h h3
    · omega
  rw [if_neg hne]
  by_cases hneg : n + m < 0
  · have : (n + m) * 2 ^ (max i j) < 0 := Int.mul_neg_of_neg_of_pos hneg hp
    simp [hneg, this]
  · have : ¬ (n + m) * 2 ^ (max i j) < 0 := by
      have : 0 ≤ (n + m) * 2 ^ (max i j) := Int.mul_nonneg (by omega) (by omega)
      omega
    simp [hneg, this]

theorem rep_add {a b : Nat} {n m : Int} (ha : Rep a n) (hb : Rep b m) (hn : small n) (hm : small m) (hr : small (n + m)) : ∃ r, double.add a b = some r ∧ Rep r (n + m) := by
  obtain ⟨s, i, ea, hs⟩ := rep_read ha hn
  obtain ⟨t, j, eb, ht⟩ := rep_read hb hm
  obtain ⟨u, e, hu⟩ := sum_whole (i := i) (j := j) hs ht
  refine ⟨_, ?_, rep_write (s := u) (max i j) hr hu⟩
  simp [Format.add, ea, eb, e]

theorem rep_sub {a b : Nat} {n m : Int} (ha : Rep a n) (hb : Rep b m) (hn : small n) (hm : small m) (hr : small (n - m)) : ∃ r, double.sub a b = some r ∧ Rep r (n - m) := by
  obtain ⟨s, i, ea, hs⟩ := rep_read ha hn
  obtain ⟨t, j, eb, ht⟩ := rep_read hb hm
  have ht' : -m ≠ 0 → (!t) = decide (-m < 0) := by
    intro h
    rw [ht (by omega)]
    by_cases h2 : m < 0
    · have : ¬ -m < 0 := by omega
      rw [decide_eq_true h2, decide_eq_false this]; rfl
    · have : -m < 0 := by omega
      rw [decide_eq_false h2, decide_eq_true this]; rfl
  obtain ⟨u, e, hu⟩ := sum_whole (i := i) (j := j) hs ht'
  rw [Int.natAbs_neg] at e
  rw [← Int.sub_eq_add_neg] at e hu
  refine ⟨_, ?_, rep_write (s := u) (max i j) hr hu⟩
  simp [Format.sub, ea, eb, e, Datum.opposite]

theorem prod_sign {s t : Bool} {n m : Int} (hs : n ≠ 0 → s = decide (n < 0)) (ht : m ≠ 0 → t = decide (m < 0)) : n * m ≠ 0 → (s ^^ t) = decide (n * m < 0) := by
  intro h
  have hn : n ≠ 0 := fun e => h (by rw [e, Int.zero_mul])
  have hm : m ≠ 0 := fun e => h (by rw [e, Int.mul_zero])
  rw [hs hn, ht hm]
  by_cases h1 : n < 0
  · by_cases h2 : m < 0
    · have := Int.mul_pos_of_neg_of_neg h1 h2
      have h3 : ¬ n * m < 0 := by omega
      simp [h1, h2, h3]
    · have := Int.mul_neg_of_neg_of_pos h1 (show 0 < m by omega)
      simp [h1, h2, this]
  · by_cases h2 : m < 0
    · have := Int.mul_neg_of_pos_of_neg (show 0 < n by omega) h2
      simp [h1, h2, this]
    · have := Int.mul_pos (show 0 < n by omega) (show 0 < m by omega)
      have h3 : ¬ n * m < 0 := by omega
      simp [h1, h2, h3]

theorem prod_whole (s t : Bool) (n m : Int) (i j : Nat) :
    Datum.product (.number s (n.natAbs * 2 ^ i) (-(i : Int))) (.number t (m.natAbs * 2 ^ j) (-(j : Int))) = some (.number (s ^^ t) ((n * m).natAbs * 2 ^ (i + j)) (-((i + j : Nat) : Int))) := by
  have e1 : n.natAbs * 2 ^ i * (m.natAbs * 2 ^ j) = (n * m).natAbs * 2 ^ (i + j) := by
    rw [Int.natAbs_mul, Nat.pow_add, Nat.mul_mul_mul_comm]
  have e2 : -(i : Int) + -(j : Int) = -((i + j : Nat) : Int) := by omega
  simp only [Datum.product, e1, e2]

theorem rep_mul {a b : Nat} {n m : Int} (ha : Rep a n) (hb : Rep b m) (hn : small n) (hm : small m) (hr : small (n * m)) : ∃ r, double.mul a b = some r ∧ Rep r (n * m) := by
  obtain ⟨s, i, ea, hs⟩ := rep_read ha hn
  obtain ⟨t, j, eb, ht⟩ := rep_read hb hm
  refine ⟨_, ?_, rep_write (s := (s ^^ t)) (i + j) hr (prod_sign hs ht)⟩
  simp [Format.mul, ea, eb, prod_whole]

theorem rep_int {n : Int} (hn : small n) : Rep (floatOfInt .f64 n) n := by
  have e : floatOfInt .f64 n = double.write (.number (n < 0) (n.natAbs * 2 ^ 0) (-((0 : Nat) : Int))) := by
    unfold floatOfInt FloatKind.nearest FloatKind.encode
    rw [Nat.pow_zero, Nat.mul_one]
    rfl
  rw [e]
  exact rep_write 0 hn (fun _ => rfl)

theorem rep_order {a b : Nat} {n m : Int} (ha : Rep a n) (hb : Rep b m) (hn : small n) (hm : small m) (h : n = m) : double.order a b = some .eq := by
  subst h
  obtain ⟨s, i, ea, hs⟩ := rep_read ha hn
  obtain ⟨t, j, eb, ht⟩ := rep_read hb hn
  have em : min (-(i : Int)) (-(j : Int)) = -((max i j : Nat) : Int) := by omega
  have e1 : (-(i : Int) - -((max i j : Nat) : Int)).toNat = max i j - i := by omega
  have e2 : (-(j : Int) - -((max i j : Nat) : Int)).toNat = max i j - j := by omega
  have e3 : i + (max i j - i) = max i j := by omega
  have e4 : j + (max i j - j) = max i j := by omega
  simp only [Format.order, ea, eb, Datum.order, em, e1, e2]
  rw [signed_eq s n hs, signed_eq t n ht, e3, e4]
  simp

theorem xor_sign (s : Bool) {r : Nat} (h : r < 2 ^ 63) : double.word s r ^^^ 2 ^ 63 = double.word (!s) r := by
  have es : double.signWeight = 2 ^ 63 := by decide
  unfold Format.word
  rw [es]
  cases s
  · simp only [Bool.false_eq_true, if_false, Bool.not_false, if_true]
    have := Nat.two_pow_add_eq_or_of_lt h 1
    rw [Nat.mul_one] at this
    rw [this]
    apply Nat.eq_of_testBit_eq
    intro i
    rw [Nat.testBit_xor, Nat.testBit_or, Nat.testBit_two_pow]
    by_cases hi : 63 = i
    · subst hi
      rw [Nat.testBit_lt_two_pow h]; rfl
    · simp [hi]
  · simp only [if_true, Bool.not_true, Bool.false_eq_true, if_false]
    have := Nat.two_pow_add_eq_or_of_lt h 1
    rw [Nat.mul_one] at this
    rw [this]
    apply Nat.eq_of_testBit_eq
    intro i
    rw [Nat.testBit_xor, Nat.testBit_or, Nat.testBit_two_pow]
    by_cases hi : 63 = i
    · subst hi
      rw [Nat.testBit_lt_two_pow h]; rfl
    · simp [hi]

theorem rung_lt {n : Nat} (h : n < 2 ^ 53) : rungOf n < 2 ^ 63 := by
  by_cases h0 : n = 0
  · subst h0; decide
  · have hl := log2_small h h0
    obtain ⟨hs1, hs2⟩ := signif h h0
    unfold rungOf
    rw [if_neg h0]
    omega

theorem rep_neg {a : Nat} {n : Int} (ha : Rep a n) (hn : small n) : Rep (Op.negFloat .f64 a) (-n) := by
  obtain ⟨s, rfl, hs⟩ := ha
  refine ⟨!s, ?_, ?_⟩
  · rw [Int.natAbs_neg]
    exact xor_sign s (rung_lt hn)
  · intro h
    rw [hs (by omega)]
    by_cases h2 : n < 0
    · have : ¬ -n < 0 := by omega
      rw [decide_eq_true h2, decide_eq_false this]; rfl
    · have : -n < 0 := by omega
      rw [decide_eq_false h2, decide_eq_true this]; rfl

/-! ### squares that may be rounded -/

/-- A number, or an infinity, that isn't below nought. -/
def Pos (b : Nat) : Prop := (∃ m i, double.read b = .number false m i) ∨ double.read b = .infinity false

theorem pos_word {r : Nat} (h : r ≤ 9218868437227405312) : Pos (double.word false r) := by
  have es : double.signWeight = 9223372036854775808 := by decide
  have eb : double.binade = 4503599627370496 := by decide
  have ei : double.infRung = 9218868437227405312 := by decide
  obtain ⟨q1, q2⟩ := read_word false (r := r) (by omega)
  unfold Pos Format.read
  rw [es, eb, ei, q1, q2]
  simp only []
  by_cases h1 : r < 4503599627370496
  · rw [if_pos h1]; exact Or.inl ⟨_, _, rfl⟩
  · rw [if_neg h1]
    by_cases h2 : r < 9218868437227405312
    · rw [if_pos h2]; exact Or.inl ⟨_, _, rfl⟩
    · rw [if_neg h2, if_pos (by omega)]; exact Or.inr rfl

theorem pos_nearest (m : Nat) (i : Int) : Pos (double.nearest false m i) := by
  have ei : double.infRung = 9218868437227405312 := by decide
  unfold Format.nearest
  by_cases h : m = 0
  · rw [if_pos h]; exact pos_word (by omega)
  · rw [if_neg h, ei]
    exact pos_word (Nat.min_le_right _ _)

theorem square_pos {a : Nat} {n : Int} (ha : Rep a n) (hn : small n) : ∃ r, double.mul a a = some r ∧ Pos r := by
  obtain ⟨s, i, ea, hs⟩ := rep_read ha hn
  refine ⟨_, by simp only [Format.mul, ea, prod_whole, Option.map_some]; rfl, ?_⟩
  simp only [Bool.xor_self, Format.write]
  exact pos_nearest _ _

theorem square_same {a b : Nat} {n m : Int} (ha : Rep a n) (hb : Rep b m) (hn : small n) (h : n.natAbs = m.natAbs) : double.mul a a = double.mul b b := by
  obtain ⟨s, rfl, _⟩ := ha
  obtain ⟨t, rfl, _⟩ := hb
  rw [← h]
  obtain ⟨r1, e1⟩ : ∃ x, rungOf n.natAbs = x := ⟨_, rfl⟩
  have hlt : rungOf n.natAbs < 9223372036854775808 := rung_lt hn
  rw [e1] at hlt ⊢
  have key : ∀ s : Bool, (double.read (double.word s r1)).product (double.read (double.word s r1)) = (double.read (double.word false r1)).product (double.read (double.word false r1)) := by
    intro s
    have es : double.signWeight = 9223372036854775808 := by decide
    obtain ⟨q1, q2⟩ := read_word s hlt
    obtain ⟨p1, p2⟩ := read_word false hlt
    unfold Format.read
    rw [es, q1, q2, p1, p2]
    simp only []
    split
    · simp [Datum.product]
    · split
      · simp [Datum.product]
      · split
        · simp [Datum.product]
        · simp [Datum.product]
  unfold Format.mul
  rw [key s, key t]

theorem sum_comm (x y : Datum) : x.sum y = y.sum x := by
  cases x <;> cases y <;> simp only [Datum.sum]
  · rename_i s m i t n j
    rw [Int.min_comm, Int.add_comm, Bool.and_comm]
  · rename_i s t
    cases s <;> cases t <;> rfl
theorem add_comm' (a b : Nat) : double.add a b = double.add b a := by
  unfold Format.add
  rw [sum_comm]

theorem pos_add {a b : Nat} (ha : Pos a) (hb : Pos b) : ∃ r, double.add a b = some r ∧ ¬ nan r := by
  have hnn : ∀ {c : Nat}, Pos c → ¬ nan c := by
    intro c hc hn
    unfold nan at hn
    rcases hc with ⟨m, i, e⟩ | e <;> simp [e, Datum.isNaN] at hn
  have ei : double.infRung = 9218868437227405312 := by decide
  have hinf : Pos (double.write (.infinity false)) := by
    simp only [Format.write, ei]
    exact pos_word (by omega)
  rcases ha with ⟨m, i, ea⟩ | ea <;> rcases hb with ⟨n, j, eb⟩ | eb
  · refine ⟨_, by simp only [Format.add, ea, eb, Datum.sum, Option.map_some]; rfl, ?_⟩
    simp only [Format.write]
    have e : (if signed false m (i - min i j).toNat + signed false n (j - min i j).toNat = 0 then (false && false) else decide (signed false m (i - min i j).toNat + signed false n (j - min i j).toNat < 0)) = false := by
      split
      · rfl
      · have hp : ∀ x k : Nat, 0 ≤ signed false x k := fun x k => by
          simp only [signed, Bool.false_eq_true, if_false]
          exact Int.natCast_nonneg _
        have h1 := hp m (i - min i j).toNat
        have h2 := hp n (j - min i j).toNat
        rw [decide_eq_false_iff_not]
        omega
    rw [e]
    exact hnn (pos_nearest _ _)
  · exact ⟨_, by simp only [Format.add, ea, eb, Datum.sum, Option.map_some], hnn hinf⟩
  · exact ⟨_, by simp only [Format.add, ea, eb, Datum.sum, Option.map_some], hnn hinf⟩
  · exact ⟨_, by simp only [Format.add, ea, eb, Datum.sum, Option.map_some, if_true], hnn hinf⟩
end Go.Proofs.Ytlehddfefinadaa
