/- Numbers and bytes, without memory: a number's groups, what is read of bytes, signs folded in, and what one has to do with the other. -/
import Derived.Test.YthncdbobjeeeaaaGreatDoorRows
import Derived.Laws.BitsAllLaws
namespace Go.Proofs.YthncdbobjeeeaaaGreatDoor

/-- The groups of n: at most f behind the first. -/
def en : Nat → Nat → List Nat
  | 0, n => [n % 256]
  | f + 1, n => if n < 128 then [n] else (n % 128 + 128) :: en f (n / 128)

/-- The groups of n. -/
def enc (n : Nat) : List Nat := en 9 n

/-- What a reader makes of bytes, i groups that made n ahead: a number, an error, how many bytes. -/
def rd : List Nat → Nat → Nat → Nat × Nat × Nat
  | [], _, _ => (0, 30, 0)
  | c :: cs, i, n =>
    if i = 9 ∧ c ≠ 1 then (0, 31, 0)
    else if c < 128 then (if 0 < i ∧ c = 0 then (0, 31, 0) else (n + c * 2 ^ (7 * i), 0, i + 1))
    else rd cs (i + 1) (n + (c - 128) * 2 ^ (7 * i))

theorem en_byte (f n : Nat) : ∀ c ∈ en f n, c < 256 := by
  induction f generalizing n with
  | zero => intro c hc; simp [en] at hc; omega
  | succ f ih =>
    intro c hc
    unfold en at hc
    split at hc
    · simp at hc; omega
    · rcases List.mem_cons.1 hc with rfl | h
      · omega
      · exact ih _ c h

theorem en_length (f n : Nat) : 0 < (en f n).length ∧ (en f n).length ≤ f + 1 := by
  induction f generalizing n with
  | zero => simp [en]
  | succ f ih =>
    unfold en
    split
    · simp
    · have := ih (n / 128); simp; omega

theorem enc_length (n : Nat) : 0 < (enc n).length ∧ (enc n).length ≤ 10 := en_length 9 n

/-- What is written is read. -/
theorem rd_en (f n : Nat) (i m : Nat) (l : List Nat) (hf : f + i = 9) (hn : n < 2 ^ (64 - 7 * i)) (h0 : 0 < i → 0 < n) : rd (en f n ++ l) i m = (m + n * 2 ^ (7 * i), 0, i + (en f n).length) := by
  induction f generalizing n i m with
  | zero =>
    have : i = 9 := by omega
    subst this
    have h1 : n = 1 := by have := h0 (by omega); simp at hn; omega
    subst h1
    simp [en, rd]
  | succ f ih =>
    have hi : i < 9 := by omega
    have hi9 : ¬ i = 9 := by omega
    unfold en
    by_cases h : n < 128
    · rw [if_pos h]
      have : ¬ (0 < i ∧ n = 0) := by omega
      simp [rd, hi9, h, this]
    · rw [if_neg h]
      have e : ¬ (n % 128 + 128) < 128 := by omega
      have e2 : n % 128 + 128 - 128 = n % 128 := by omega
      have hp : (2 : Nat) ^ (7 * (i + 1)) = 128 * 2 ^ (7 * i) := by rw [show 7 * (i + 1) = 7 + 7 * i by omega, Nat.pow_add]
      have hq : n / 128 < 2 ^ (64 - 7 * (i + 1)) := by
        have : (2 : Nat) ^ (64 - 7 * i) = 128 * 2 ^ (64 - 7 * (i + 1)) := by rw [show 64 - 7 * i = 7 + (64 - 7 * (i + 1)) by omega, Nat.pow_add]
        omega
      rw [List.cons_append, rd]
      simp only [hi9, false_and, if_false, e, e2]
      rw [ih (n / 128) (i + 1) _ (by omega) hq (by omega), hp]
      refine Prod.ext ?_ (Prod.ext rfl ?_)
      · simp only []
        have hd : n = 128 * (n / 128) + n % 128 := (Nat.div_add_mod n 128).symm
        generalize 2 ^ (7 * i) = p at *
        have : n * p = n / 128 * (128 * p) + n % 128 * p := by
          have h2 : n * p = (128 * (n / 128) + n % 128) * p := by rw [← hd]
          rw [h2, Nat.add_mul, Nat.mul_comm 128, Nat.mul_assoc]
        omega
      · simp only [List.length_cons]
        omega

theorem rd_enc (n : Nat) (l : List Nat) (hn : n < 2 ^ 64) : rd (enc n ++ l) 0 0 = (n, 0, (enc n).length) := by
  have := rd_en 9 n 0 0 l rfl (by simpa using hn) (by omega)
  simpa [enc] using this

theorem or_128 (k : Nat) (h : k < 256) : k ||| 128 = k % 128 + 128 := by
  have key : ∀ d : Fin 256, d.val ||| 128 = d.val % 128 + 128 := by decide +kernel
  exact key ⟨k, h⟩

theorem or8 (m : Nat) : bits .or .u8 ((m : Int) % 256) 128 = ((m % 128 + 128 : Nat) : Int) := by
  have h := u8_or_nat (m % 256) 128 (by omega) (by omega)
  rw [or_128 _ (by omega)] at h
  rw [show m % 256 % 128 = m % 128 by omega] at h
  simpa using h

theorem or64 (n c i : Nat) (hn : n < 2 ^ i) (h : n + c * 2 ^ i < 2 ^ 64) : bits .or .u64 (n : Int) ((c * 2 ^ i : Nat) : Int) = ((n + c * 2 ^ i : Nat) : Int) := by
  rw [u64_or_nat n (c * 2 ^ i) (by omega) (by omega), Nat.or_comm, Nat.mul_comm c, ← Nat.two_pow_add_eq_or_of_lt hn c, Nat.add_comm]

theorem en_step (f m : Nat) (h : 128 ≤ m) : en (f + 1) m = (m % 128 + 128) :: en f (m / 128) := by
  show (if m < 128 then [m] else (m % 128 + 128) :: en f (m / 128)) = _
  rw [if_neg (by omega)]

theorem en_small (f m : Nat) (h : m < 128) : en f m = [m] := by
  cases f with
  | zero => simp [en]; omega
  | succ f => show (if m < 128 then [m] else (m % 128 + 128) :: en f (m / 128)) = _; rw [if_pos h]

def nl (s : ByteArray) : List Nat := s.data.toList.map UInt8.toNat
def bstr (l : List Nat) : ByteArray := ⟨(l.map UInt8.ofNat).toArray⟩

theorem nl_bstr (l : List Nat) (h : ∀ c ∈ l, c < 256) : nl (bstr l) = l := by
  unfold nl bstr
  simp only [List.map_map]
  rw [List.map_congr_left (g := id) (fun c hc => by simp [Nat.mod_eq_of_lt (h c hc)])]
  simp
theorem bstr_nl (s : ByteArray) : bstr (nl s) = s := by
  unfold nl bstr
  simp [Function.comp_def]
theorem nl_inj {s t : ByteArray} (h : nl s = nl t) : s = t := by rw [← bstr_nl s, ← bstr_nl t, h]
theorem nl_length (s : ByteArray) : (nl s).length = s.size := by simp [nl]
theorem nl_get (s : ByteArray) (k : Nat) (h : k < s.size) : (nl s)[k]? = some s[k].toNat := by
  unfold nl
  have h' : k < s.data.toList.length := by simpa using h
  rw [List.getElem?_map, List.getElem?_eq_getElem h']
  rfl
theorem nl_append (s t : ByteArray) : nl (s ++ t) = nl s ++ nl t := by
  unfold nl
  rw [ByteArray.data_append, Array.toList_append, List.map_append]
theorem bstr_size (l : List Nat) : (bstr l).size = l.length := by unfold bstr; simp [ByteArray.size]
theorem bstr_append (l m : List Nat) : bstr l ++ bstr m = bstr (l ++ m) := by
  apply ByteArray.ext
  rw [ByteArray.data_append]
  unfold bstr
  simp
theorem nl_lt (s : ByteArray) : ∀ c ∈ nl s, c < 256 := by
  intro c hc
  unfold nl at hc
  obtain ⟨u, _, rfl⟩ := List.mem_map.1 hc
  exact u.toNat_lt

theorem xor_ones (k : Nat) (h : k < 2 ^ 64) : (2 ^ 64 - 1) ^^^ k = 2 ^ 64 - 1 - k := by
  have e : (BitVec.allOnes 64 ^^^ BitVec.ofNat 64 k).toNat = (~~~ (BitVec.ofNat 64 k)).toNat := by rw [BitVec.allOnes_xor]
  rw [BitVec.toNat_xor, BitVec.toNat_not, BitVec.toNat_allOnes, BitVec.toNat_ofNat, Nat.mod_eq_of_lt h] at e
  exact e

theorem xor_neg (n : Int) (h1 : -9223372036854775808 ≤ n) (h2 : n ≤ 9223372036854775807) : bits .xor .i64 (-1) n = - n - 1 := by
  unfold bits
  simp only [BitVec.toNat_xor, BitVec.toNat_ofInt]
  have e1 : ((-1 : Int) % ((2 ^ IntKind.i64.bits : Nat) : Int)).toNat = 2 ^ 64 - 1 := by decide
  rw [e1]
  have hlt : (n % ((2 ^ IntKind.i64.bits : Nat) : Int)).toNat < 2 ^ 64 := by simp [IntKind.bits]; omega
  rw [xor_ones _ hlt]
  simp [IntKind.wrap, IntKind.signed, IntKind.bits]
  omega

/-- A number with its sign folded in. -/
def fo (n : Int) : Nat := if n < 0 then (- n - 1).toNat * 2 + 1 else n.toNat * 2
/-- The number of which that is made. -/
def unf (u : Nat) : Int := if u % 2 = 1 then - ((u / 2 : Nat) : Int) - 1 else ((u / 2 : Nat) : Int)

theorem unf_fo (n : Int) : unf (fo n) = n := by
  unfold unf fo
  split <;> split <;> omega

theorem fo_lt (n : Int) (h1 : -9223372036854775808 ≤ n) (h2 : n ≤ 9223372036854775807) : fo n < 2 ^ 64 := by
  unfold fo
  split <;> omega

theorem or_one (k : Nat) (h : k * 2 + 1 < 2 ^ 64) : bits .or .u64 ((k : Int) * 2) 1 = ((k * 2 + 1 : Nat) : Int) := by
  have := or64 1 k 1 (by omega) (by omega)
  rw [show (k : Int) * 2 = ((k * 2 : Nat) : Int) by omega, show (1 : Int) = ((1 : Nat) : Int) from rfl]
  rw [u64_or_nat _ _ (by omega) (by omega), Nat.or_comm]
  rw [u64_or_nat _ _ (by omega) (by omega)] at this
  simp only [Nat.pow_one] at this
  omega
end Go.Proofs.YthncdbobjeeeaaaGreatDoor
