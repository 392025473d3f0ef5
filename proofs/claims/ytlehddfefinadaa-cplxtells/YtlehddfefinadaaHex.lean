/- Plain mathematics of sixteen hexadecimal digits: the text of two floats, and when a text is one; no program is spoken of. -/
import Derived.Test.YtlehddfefinadaaRows
import Derived.WalkKit
import Derived.Laws.Strings
namespace Go.Proofs.Ytlehddfefinadaa

def nl (s : ByteArray) : List Nat := s.data.toList.map UInt8.toNat
def bstr (l : List Nat) : ByteArray := ⟨(l.map UInt8.ofNat).toArray⟩

theorem nl_bstr (l : List Nat) (h : ∀ c ∈ l, c < 256) : nl (bstr l) = l := by
  unfold nl bstr
  simp only [List.map_map]
  rw [List.map_congr_left (g := id) (fun c hc => by simp [Nat.mod_eq_of_lt (h c hc)])]
  simp
theorem bstr_nl (s : ByteArray) : bstr (nl s) = s := by
  unfold nl bstr
  simp [Function.comp_def]
theorem nl_inj {s t : ByteArray} (h : nl s = nl t) : s = t := by rw [← bstr_nl s, ← bstr_nl t, h]
theorem nl_length (s : ByteArray) : (nl s).length = s.size := by simp [nl]
theorem nl_get (s : ByteArray) (k : Nat) (h : k < s.size) : (nl s)[k]? = some s[k].toNat := by
  unfold nl
  have h' : k < s.data.toList.length := by simpa using h
  rw [List.getElem?_map, List.getElem?_eq_getElem h']
  rfl
theorem nl_append (s t : ByteArray) : nl (s ++ t) = nl s ++ nl t := by
  unfold nl
  rw [ByteArray.data_append, Array.toList_append, List.map_append]
theorem bstr_size (l : List Nat) : (bstr l).size = l.length := by unfold bstr; simp [ByteArray.size]
theorem bstr_append (l m : List Nat) : bstr l ++ bstr m = bstr (l ++ m) := by
  apply ByteArray.ext
  rw [ByteArray.data_append]
  unfold bstr
  simp
theorem nl_lt (s : ByteArray) : ∀ c ∈ nl s, c < 256 := by
  intro c hc
  unfold nl at hc
  obtain ⟨u, _, rfl⟩ := List.mem_map.1 hc
  exact u.toNat_lt

/-- A digit's letter. -/
def hd (d : Nat) : Nat := if d < 10 then 48 + d else 87 + d
/-- Is it a digit's letter? -/
def isHex (c : Nat) : Bool := (decide (48 ≤ c) && decide (c ≤ 57)) || (decide (97 ≤ c) && decide (c ≤ 102))
/-- A letter's digit; 0, if it is none. -/
def dg (c : Nat) : Nat := if 48 ≤ c ∧ c ≤ 57 then c - 48 else if 97 ≤ c ∧ c ≤ 102 then c - 87 else 0

theorem hd_hex {d : Nat} (h : d < 16) : isHex (hd d) = true := by
  unfold isHex hd
  split <;> simp <;> omega
theorem hd_lt {d : Nat} (h : d < 16) : hd d < 256 := by unfold hd; split <;> omega
theorem dg_hd {d : Nat} (h : d < 16) : dg (hd d) = d := by
  unfold dg hd
  by_cases h1 : d < 10
  · rw [if_pos h1, if_pos (by omega)]; omega
  · rw [if_neg h1, if_neg (by omega), if_pos (by omega)]; omega
theorem dg_lt (c : Nat) : dg c < 16 := by
  unfold dg
  split
  · omega
  · split <;> omega
theorem dg_inj {c d : Nat} (hc : isHex c = true) (hd' : isHex d = true) (h : dg c = dg d) : c = d := by
  have key : ∀ c, isHex c = true → (48 ≤ c ∧ c ≤ 57 ∧ dg c = c - 48) ∨ (97 ≤ c ∧ c ≤ 102 ∧ dg c = c - 87) := by
    intro c hc
    unfold isHex at hc
    simp only [Bool.or_eq_true, Bool.and_eq_true, decide_eq_true_eq] at hc
    unfold dg
    rcases hc with hc | hc
    · left; rw [if_pos hc]; exact ⟨hc.1, hc.2, rfl⟩
    · right; rw [if_neg (by omega), if_pos hc]; exact ⟨hc.1, hc.2, rfl⟩
  have h1 := key c hc
  have h2 := key d hd'
  omega

/-- The first j of the sixteen digits of a. -/
def hxs (j a : Nat) : List Nat := (List.range j).map fun i => hd (a / 16 ^ (15 - i) % 16)
def ptx (a b : Nat) : List Nat := 99 :: (hxs 16 a ++ hxs 16 b)

theorem hxs_succ (j a : Nat) : hxs (j + 1) a = hxs j a ++ [hd (a / 16 ^ (15 - j) % 16)] := by
  unfold hxs
  rw [List.range_succ, List.map_append]
  rfl
theorem hxs_length (j a : Nat) : (hxs j a).length = j := by unfold hxs; simp
theorem hxs_hex (j a : Nat) : ∀ c ∈ hxs j a, isHex c = true := by
  intro c hc
  unfold hxs at hc
  obtain ⟨i, _, rfl⟩ := List.mem_map.1 hc
  exact hd_hex (Nat.mod_lt _ (by omega))
theorem hxs_lt (j a : Nat) : ∀ c ∈ hxs j a, c < 256 := by
  intro c hc
  unfold hxs at hc
  obtain ⟨i, _, rfl⟩ := List.mem_map.1 hc
  exact hd_lt (Nat.mod_lt _ (by omega))
theorem ptx_lt (a b : Nat) : ∀ c ∈ ptx a b, c < 256 := by
  intro c hc
  unfold ptx at hc
  rcases List.mem_cons.1 hc with rfl | hc
  · omega
  · rcases List.mem_append.1 hc with hc | hc
    · exact hxs_lt _ _ c hc
    · exact hxs_lt _ _ c hc
theorem ptx_length (a b : Nat) : (ptx a b).length = 33 := by
  unfold ptx
  simp [hxs_length]

/-- What the digits of a text count, sixteen of them at most. -/
def uval (l : List Nat) : Nat := l.foldl (fun n c => n * 16 + dg c) 0
theorem uval_snoc (l : List Nat) (c : Nat) : uval (l ++ [c]) = uval l * 16 + dg c := by
  unfold uval
  rw [List.foldl_append]
  rfl
theorem uval_hxs (a : Nat) (ha : a < 2 ^ 64) : ∀ j, j ≤ 16 → uval (hxs j a) = a / 16 ^ (16 - j)
  | 0, _ => by
    have : a / 16 ^ 16 = 0 := Nat.div_eq_of_lt (by omega)
    rw [Nat.sub_zero, this]
    rfl
  | j + 1, h => by
    rw [hxs_succ, uval_snoc, uval_hxs a ha j (by omega), dg_hd (Nat.mod_lt _ (by omega))]
    have e1 : 16 - j = (15 - j) + 1 := by omega
    have e2 : 16 - (j + 1) = 15 - j := by omega
    rw [e1, e2, Nat.pow_succ, ← Nat.div_div_eq_div_mul]
    generalize a / 16 ^ (15 - j) = x
    omega
theorem uval_full (a : Nat) (ha : a < 2 ^ 64) : uval (hxs 16 a) = a := by
  rw [uval_hxs a ha 16 (by omega)]
  simp
theorem uval_lt (l : List Nat) : uval l < 16 ^ l.length := by
  generalize hn : l.length = n
  induction n generalizing l with
  | zero => rw [List.length_eq_zero_iff.1 hn]; decide
  | succ n ih =>
    have hne : l ≠ [] := by intro h; rw [h] at hn; simp at hn
    obtain ⟨m, c, rfl⟩ : ∃ m c, l = m ++ [c] := ⟨l.dropLast, l.getLast hne, (List.dropLast_concat_getLast hne).symm⟩
    rw [uval_snoc]
    have := ih m (by simpa using hn)
    have := dg_lt c
    rw [Nat.pow_succ]
    omega
theorem uval_inj (n : Nat) : ∀ l m : List Nat, l.length = n → m.length = n → (∀ c ∈ l, isHex c = true) → (∀ c ∈ m, isHex c = true) → uval l = uval m → l = m := by
  induction n with
  | zero =>
    intro l m hl hm _ _ _
    rw [List.length_eq_zero_iff.1 hl, List.length_eq_zero_iff.1 hm]
  | succ n ih =>
    intro l m hl hm hhl hhm h
    have hne : l ≠ [] := by intro h; rw [h] at hl; simp at hl
    have hne' : m ≠ [] := by intro h; rw [h] at hm; simp at hm
    obtain ⟨l', c, rfl⟩ : ∃ m c, l = m ++ [c] := ⟨l.dropLast, l.getLast hne, (List.dropLast_concat_getLast hne).symm⟩
    obtain ⟨m', d, rfl⟩ : ∃ l c, m = l ++ [c] := ⟨m.dropLast, m.getLast hne', (List.dropLast_concat_getLast hne').symm⟩
    rw [uval_snoc, uval_snoc] at h
    have h1 := dg_lt c
    have h2 := dg_lt d
    have e1 : uval l' = uval m' := by omega
    have e2 : dg c = dg d := by omega
    rw [ih l' m' (by simpa using hl) (by simpa using hm) (fun x hx => hhl x (by simp [hx])) (fun x hx => hhm x (by simp [hx])) e1, dg_inj (hhl c (by simp)) (hhm d (by simp)) e2]
theorem hxs_uval (l : List Nat) (hl : l.length = 16) (hh : ∀ c ∈ l, isHex c = true) : hxs 16 (uval l) = l := by
  have hlt := uval_lt l
  rw [hl] at hlt
  exact uval_inj 16 _ _ (hxs_length _ _) hl (hxs_hex _ _) hh (uval_full _ (by omega))

/-! ### a whole text -/

def good (l : List Nat) : Bool := decide (l.length = 33) && (l.head? == some 99) && l.tail.all isHex
def vre (l : List Nat) : Nat := uval (l.tail.take 16)
def vim (l : List Nat) : Nat := uval (l.tail.drop 16)

theorem v_lt {l : List Nat} (h : l.length = 33) : vre l < 2 ^ 64 ∧ vim l < 2 ^ 64 := by
  have h1 := uval_lt (l.tail.take 16)
  have h2 := uval_lt (l.tail.drop 16)
  have e1 : (l.tail.take 16).length = 16 := by simp; omega
  have e2 : (l.tail.drop 16).length = 16 := by simp; omega
  rw [e1] at h1
  rw [e2] at h2
  unfold vre vim
  constructor <;> omega

theorem good_iff (l : List Nat) (hl : l.length = 33) : good l = true ↔ ptx (vre l) (vim l) = l := by
  constructor
  · intro h
    unfold good at h
    simp only [Bool.and_eq_true, decide_eq_true_eq, beq_iff_eq] at h
    obtain ⟨⟨_, h2⟩, h3⟩ := h
    have hall : ∀ c ∈ l.tail, isHex c = true := List.all_eq_true.1 h3
    cases l with
    | nil => simp at hl
    | cons c t =>
      simp only [List.head?_cons, Option.some.injEq, List.tail_cons, List.length_cons] at *
      subst h2
      unfold ptx vre vim
      rw [List.tail_cons, hxs_uval _ (by simp; omega) (fun x hx => hall x (List.mem_of_mem_take hx)), hxs_uval _ (by simp; omega) (fun x hx => hall x (List.mem_of_mem_drop hx)), List.take_append_drop]
  · intro h
    unfold good
    rw [decide_eq_true hl]
    rw [← h]
    unfold ptx
    simp only [List.head?_cons, List.tail_cons, Bool.true_and, beq_self_eq_true, List.all_append, Bool.and_eq_true]
    exact ⟨List.all_eq_true.2 (hxs_hex _ _), List.all_eq_true.2 (hxs_hex _ _)⟩

theorem good_ptx (a b : Nat) : good (ptx a b) = true := by
  unfold good
  rw [decide_eq_true (ptx_length a b)]
  unfold ptx
  simp only [List.head?_cons, List.tail_cons, Bool.true_and, beq_self_eq_true, List.all_append, Bool.and_eq_true]
  exact ⟨List.all_eq_true.2 (hxs_hex _ _), List.all_eq_true.2 (hxs_hex _ _)⟩
theorem v_ptx {a b : Nat} (ha : a < 2 ^ 64) (hb : b < 2 ^ 64) : vre (ptx a b) = a ∧ vim (ptx a b) = b := by
  unfold vre vim ptx
  rw [List.tail_cons, List.take_left' (hxs_length 16 a), List.drop_left' (hxs_length 16 a), uval_full a ha, uval_full b hb]
  exact ⟨rfl, rfl⟩

/-! ### the machine's shifts -/

theorem digit_top (a j : Nat) (hj : j < 16) : (a * 16 ^ j % 2 ^ 64) / 2 ^ 60 = a / 16 ^ (15 - j) % 16 := by
  have e1 : (2 : Nat) ^ 64 = 2 ^ 60 * 16 := by decide
  rw [e1, Nat.mod_mul_right_div_self]
  have e2 : (2 : Nat) ^ 60 = 16 ^ (15 - j) * 16 ^ j := by
    rw [← Nat.pow_add, show 15 - j + j = 15 by omega]
  rw [e2, Nat.mul_div_mul_right _ _ (Nat.pow_pos (by omega))]
theorem shift_next (a j : Nat) : (a * 16 ^ j % 2 ^ 64) * 16 % 2 ^ 64 = a * 16 ^ (j + 1) % 2 ^ 64 := by
  have e : a * 16 ^ (j + 1) = a * 16 ^ j * 16 := by rw [Nat.pow_succ, Nat.mul_assoc]
  rw [e, Nat.mod_mul_mod]
theorem or_digit (x d : Nat) (hd' : d < 16) : (x * 16) ||| d = x * 16 + d := by
  have := Nat.two_pow_add_eq_or_of_lt (i := 4) (b := d) hd' x
  rw [Nat.mul_comm x 16]
  exact this.symm
end Go.Proofs.Ytlehddfefinadaa
