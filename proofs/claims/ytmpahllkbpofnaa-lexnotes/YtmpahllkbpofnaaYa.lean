/- The document's lexer without memory: its facts. -/
import Derived.Test.YtmpahllkbpofnaaX0
namespace Go.Proofs.Ytmpahllkbpofnaa.Y
open Go

/-! ### Rows of numbers -/
def tw (p : Nat → Bool) (r : List Nat) : Nat := (r.takeWhile p).length
theorem tw_le (p : Nat → Bool) (r : List Nat) : tw p r ≤ r.length := (List.takeWhile_prefix p).length_le
theorem tw_nil (p : Nat → Bool) : tw p [] = 0 := rfl
theorem tw_yes {p : Nat → Bool} {c : Nat} (h : p c = true) (r : List Nat) : tw p (c :: r) = tw p r + 1 := by unfold tw; rw [List.takeWhile_cons, if_pos h]; rfl
theorem tw_no {p : Nat → Bool} {c : Nat} (h : p c = false) (r : List Nat) : tw p (c :: r) = 0 := by unfold tw; rw [List.takeWhile_cons, if_neg (by simp [h])]; rfl
theorem tw_take (p : Nat → Bool) (r : List Nat) : ∀ c ∈ r.take (tw p r), p c = true := by
  intro c hc
  have : r.take (tw p r) = r.takeWhile p := ((List.prefix_iff_eq_take.1 (List.takeWhile_prefix p))).symm
  rw [this] at hc
  exact (List.all_takeWhile (p := p) (l := r) |> List.all_eq_true.1) c hc
theorem tw_app {p : Nat → Bool} : ∀ {x : List Nat} (_ : ∀ c ∈ x, p c = true) (r : List Nat), tw p (x ++ r) = x.length + tw p r
  | [], _, r => by simp
  | c :: x, h, r => by
    rw [List.cons_append, tw_yes (h c (by simp)), tw_app (fun d hd => h d (by simp [hd])), List.length_cons]
    omega
theorem tw_stop {p : Nat → Bool} {r : List Nat} (h : ∀ c, r.head? = some c → p c = false) : tw p r = 0 := by
  cases r with
  | nil => rfl
  | cons c r => exact tw_no (h c rfl) r
theorem runTo_eq (p : Nat → Bool) (l : List Nat) : ∀ k i, l.length - i ≤ k → runTo p l k i = i + tw p (l.drop i)
  | 0, i, h => by
    rw [List.drop_eq_nil_of_le (by omega)]
    rfl
  | k + 1, i, h => by
    unfold runTo
    by_cases hi : i < l.length
    · rw [List.drop_eq_getElem_cons hi, List.getD_eq_getElem?_getD, List.getElem?_eq_getElem hi, Option.getD_some, decide_eq_true hi, Bool.true_and]
      cases hp : p l[i] with
      | true =>
        rw [if_pos rfl, runTo_eq p l k (i + 1) (by omega), tw_yes hp]
        omega
      | false =>
        rw [if_neg (by decide), tw_no hp]
        rfl
    · rw [decide_eq_false hi, Bool.false_and, if_neg (by decide), List.drop_eq_nil_of_le (by omega)]
      rfl
/-- The number that these digits are. -/
def dec (r : List Nat) : Nat := r.foldl (fun n c => 10 * n + (c - 48)) 0
theorem decN_eq (l : List Nat) (a : Nat) : ∀ j, a + j ≤ l.length → decN l a j = dec ((l.drop a).take j)
  | 0, _ => rfl
  | j + 1, h => by
    unfold decN
    rw [decN_eq l a j (by omega), List.take_add_one, List.getElem?_drop, List.getElem?_eq_getElem (by omega : a + j < l.length)]
    unfold dec
    rw [Option.toList_some, List.foldl_append, List.getD_eq_getElem?_getD, List.getElem?_eq_getElem (by omega : a + j < l.length)]
    rfl

/-! ### Texts and rows -/
theorem nl_ext (s : ByteArray) (a b : Nat) : nl (s.extract a b) = ((nl s).drop a).take (b - a) := by
  unfold nl
  rw [ByteArray.data_extract, Array.toList_extract, List.extract_eq_take_drop, List.map_take, List.map_drop]
theorem nl_app (s t : ByteArray) : nl (s ++ t) = nl s ++ nl t := by
  unfold nl
  rw [ByteArray.data_append, Array.toList_append, List.map_append]
theorem map_inj : ∀ {l m : List UInt8}, l.map UInt8.toNat = m.map UInt8.toNat → l = m
  | [], [], _ => rfl
  | [], _ :: _, h => by simp at h
  | _ :: _, [], h => by simp at h
  | a :: l, b :: m, h => by
    simp only [List.map_cons, List.cons.injEq] at h
    rw [UInt8.toNat_inj.1 h.1, map_inj h.2]
theorem nl_inj {s t : ByteArray} (h : nl s = nl t) : s = t := by
  cases s with
  | mk d => cases t with
    | mk e =>
      have : d.toList = e.toList := map_inj h
      rw [Array.toList_inj.1 this]
def bytes (t : List Nat) : ByteArray := ⟨(t.map UInt8.ofNat).toArray⟩
theorem nl_bytes {t : List Nat} (h : ∀ c ∈ t, c < 256) : nl (bytes t) = t := by
  unfold nl bytes
  rw [List.map_map]
  conv => rhs; rw [← List.map_id t]
  refine List.map_congr_left fun c hc => ?_
  show (UInt8.ofNat c).toNat = c
  rw [UInt8.toNat_ofNat']
  exact Nat.mod_eq_of_lt (h c hc)
theorem nl_lt (s : ByteArray) : ∀ c ∈ nl s, c < 256 := by
  intro c hc
  unfold nl at hc
  obtain ⟨u, -, rfl⟩ := List.mem_map.1 hc
  exact u.toNat_lt
theorem bytes_nl (s : ByteArray) : bytes (nl s) = s := nl_inj (nl_bytes (nl_lt s))
theorem bytes_app (a b : List Nat) : bytes (a ++ b) = bytes a ++ bytes b := by
  unfold bytes
  rw [List.map_append]
  apply ByteArray.ext
  rw [ByteArray.data_append]
  simp
theorem toList_is (s : ByteArray) : s.toList.map UInt8.toNat = nl s := by rw [ByteArray.toList_eq]; rfl
theorem toList_eqb (s t : ByteArray) : (s.toList == t.toList) = decide (nl s = nl t) := by
  by_cases h : nl s = nl t
  · rw [nl_inj h]
    simp
  · rw [decide_eq_false h]
    cases hb : s.toList == t.toList with
    | false => rfl
    | true =>
      have := eq_of_beq hb
      exact absurd (by rw [← toList_is, ← toList_is, this]) h

/-! ### What stands at the head of a row -/
theorem toList_lit (s : ByteArray) (m : List UInt8) : (s.toList == m) = decide (nl s = m.map UInt8.toNat) := by
  have := toList_eqb s ⟨m.toArray⟩
  rw [ByteArray.toList_eq ⟨m.toArray⟩] at this
  exact this
def two (r : List Nat) : Bool := decide (r.take 2 = [61, 61]) || decide (r.take 2 = [33, 61])
theorem twoB_eq (s : ByteArray) : twoB s = two (nl s) := by
  unfold twoB two
  rw [toList_lit, toList_lit, nl_ext, List.drop_zero]
  show (decide (2 ≤ s.size) && (decide ((nl s).take 2 = [61, 61]) || decide ((nl s).take 2 = [33, 61]))) = _
  by_cases h : 2 ≤ s.size
  · rw [decide_eq_true h, Bool.true_and]
  · have hl : ((nl s).take 2).length < 2 := by rw [List.length_take, nl_length]; omega
    have h1 : ¬ (nl s).take 2 = [61, 61] := fun e => by rw [e] at hl; simp at hl
    have h2 : ¬ (nl s).take 2 = [33, 61] := fun e => by rw [e] at hl; simp at hl
    rw [decide_eq_false h, decide_eq_false h1, decide_eq_false h2]
    rfl
inductive Ev where
  | gap (n : Nat)
  | tok (k n : Nat)
  | bad (e : Nat)
def letN (c : Nat) : Bool := letterB c false
def notNl (c : Nat) : Bool := !decide (c = 10)
def sufR (r : List Nat) (d : Nat) : Bool := decide (d < r.length) && (decide (r.getD d 0 = 99) || decide (r.getD d 0 = 105))
def endR (r : List Nat) : Nat := if sufR r (tw digitB r) then tw digitB r + 1 else tw digitB r
def errR (r : List Nat) : Nat := if 18 < tw digitB r then 32 else if sufR r (tw digitB r) && decide (15 < tw digitB r) then 32 else if decide (endR r < r.length) && letN (r.getD (endR r) 0) then 180 else 0
def lookN (r : List Nat) : Ev := if errR r = 0 then .tok (if sufR r (tw digitB r) then 4 else 3) (endR r) else .bad (errR r)
def look (r : List Nat) : Ev :=
  if blankB (r.getD 0 0) then .gap 1
  else if decide (r.getD 0 0 = 47) && (decide (1 < r.length) && decide (r.getD 1 0 = 47)) then .gap (tw notNl r)
  else if letterB (r.getD 0 0) true then (if 20 < tw letN r then .bad 32 else .tok (if isWord (bytes (r.take (tw letN r))) then 2 else 1) (tw letN r))
  else if digitB (r.getD 0 0) then lookN r
  else if two r then .tok 5 2 else if signL.contains (r.getD 0 0) then .tok 5 1 else .bad 180
/-- A token by its kind, its place, its text. -/
def mk (k a : Nat) (t : List Nat) : Tk :=
  ⟨k, a, bytes t, if k = 3 then (dec t : Int) else 0, if k = 4 then (if t.getLastD 0 = 99 then floatOfInt .f64 (dec t.dropLast : Int) else 0) else 0, if k = 4 then (if t.getLastD 0 = 99 then 0 else floatOfInt .f64 (dec t.dropLast : Int)) else 0⟩

theorem mk3 (a : Nat) (t : List Nat) : mk 3 a t = ⟨3, a, bytes t, (dec t : Int), 0, 0⟩ := by
  unfold mk
  rw [if_pos rfl, if_neg (by decide), if_neg (by decide)]
  rfl
theorem mk4c {a : Nat} {t : List Nat} (h : t.getLastD 0 = 99) : mk 4 a t = ⟨4, a, bytes t, 0, floatOfInt .f64 (dec t.dropLast : Int), 0⟩ := by
  unfold mk
  rw [if_neg (by decide), if_pos rfl, if_pos rfl, if_pos h, if_pos h]
  rfl
theorem mk4i {a : Nat} {t : List Nat} (h : ¬ t.getLastD 0 = 99) : mk 4 a t = ⟨4, a, bytes t, 0, 0, floatOfInt .f64 (dec t.dropLast : Int)⟩ := by
  unfold mk
  rw [if_neg (by decide), if_pos rfl, if_pos rfl, if_neg h, if_neg h]
  rfl
theorem mk0 {k a : Nat} {t : List Nat} (h3 : k ≠ 3) (h4 : k ≠ 4) : mk k a t = ⟨k, a, bytes t, 0, 0, 0⟩ := by
  unfold mk
  rw [if_neg h3, if_neg h4, if_neg h4]
theorem getD_drop (l : List Nat) (a j : Nat) : (l.drop a).getD j 0 = l.getD (a + j) 0 := by rw [List.getD_eq_getElem?_getD, List.getD_eq_getElem?_getD, List.getElem?_drop]
section
variable (s : ByteArray) (a : Nat)
theorem len_drop : ((nl s).drop a).length = s.size - a := by rw [List.length_drop, nl_length]
theorem at0_drop (j : Nat) : at0 s (a + j) = ((nl s).drop a).getD j 0 := (getD_drop (nl s) a j).symm
theorem ext_bytes (n : Nat) : s.extract a (a + n) = bytes (((nl s).drop a).take n) := by
  rw [← bytes_nl (s.extract a (a + n)), nl_ext, Nat.add_sub_cancel_left]
theorem lt_drop (j : Nat) : decide (a + j < s.size) = decide (j < ((nl s).drop a).length) := by rw [len_drop]; exact decide_eq_decide.2 (by omega)
theorem comE_eq : comE s a = a + tw notNl ((nl s).drop a) := runTo_eq _ _ _ _ (by omega)
theorem wordE_eq : wordE s a = a + tw letN ((nl s).drop a) := runTo_eq _ _ _ _ (by omega)
theorem digE_eq : digE s a = a + tw digitB ((nl s).drop a) := runTo_eq _ _ _ _ (by omega)
theorem suf_eq (d : Nat) : suf s (a + d) = sufR ((nl s).drop a) d := by
  unfold suf sufC sufI sufR
  rw [at0_drop, lt_drop]
  cases decide (d < ((nl s).drop a).length) <;> rfl
theorem numEnd_eq : numEnd s (a + tw digitB ((nl s).drop a)) = a + endR ((nl s).drop a) := by
  unfold numEnd endR
  rw [suf_eq]
  split <;> omega
theorem numErr_eq : numErr s a (a + tw digitB ((nl s).drop a)) = errR ((nl s).drop a) := by
  unfold numErr errR
  rw [Nat.add_sub_cancel_left, suf_eq, numEnd_eq]
  unfold letAt
  rw [lt_drop, at0_drop]
  rfl
theorem sign_ext : nl (s.extract a s.size) = (nl s).drop a := by
  rw [nl_ext, List.take_of_length_le (by rw [len_drop]; exact Nat.le_refl _)]
theorem take_last {r : List Nat} {d : Nat} (h : d < r.length) : (r.take (d + 1)).getLastD 0 = r.getD d 0 ∧ (r.take (d + 1)).dropLast = r.take d := by
  rw [List.take_add_one, List.getElem?_eq_getElem h, Option.toList_some, List.dropLast_concat, List.getD_eq_getElem?_getD, List.getElem?_eq_getElem h]
  refine ⟨?_, rfl⟩
  rw [List.getLastD_eq_getLast?, List.getLast?_concat]
theorem numTok_eq : numTok s a (a + tw digitB ((nl s).drop a)) = mk (if sufR ((nl s).drop a) (tw digitB ((nl s).drop a)) then 4 else 3) a (((nl s).drop a).take (endR ((nl s).drop a))) := by
  have hd : decN (nl s) a (a + tw digitB ((nl s).drop a) - a) = dec (((nl s).drop a).take (tw digitB ((nl s).drop a))) := by
    rw [Nat.add_sub_cancel_left]
    by_cases h : a ≤ (nl s).length
    · refine decN_eq _ _ _ ?_
      have := tw_le digitB ((nl s).drop a)
      rw [List.length_drop] at this
      omega
    · rw [List.drop_eq_nil_of_le (by omega)]
      rfl
  unfold numTok
  rw [hd, Nat.add_assoc, ext_bytes, ext_bytes]
  unfold sufC sufI
  rw [lt_drop, at0_drop]
  unfold endR sufR
  generalize (nl s).drop a = r at *
  by_cases hl : tw digitB r < r.length
  · obtain ⟨l1, l2⟩ := take_last hl
    rw [decide_eq_true hl]
    simp only [Bool.true_and]
    by_cases hc : r.getD (tw digitB r) 0 = 99
    · rw [decide_eq_true hc, Bool.true_or, if_pos rfl, if_pos rfl, if_pos rfl, mk4c (l1.trans hc), l2]
    · rw [decide_eq_false hc, Bool.false_or, if_neg Bool.false_ne_true]
      by_cases hi : r.getD (tw digitB r) 0 = 105
      · rw [decide_eq_true hi, if_pos rfl, if_pos rfl, if_pos rfl, mk4i (by rw [l1]; exact hc), l2]
      · rw [decide_eq_false hi, if_neg Bool.false_ne_true, if_neg Bool.false_ne_true, if_neg Bool.false_ne_true, mk3]
  · rw [decide_eq_false hl, Bool.false_and, Bool.false_and, Bool.false_and, if_neg Bool.false_ne_true, if_neg Bool.false_ne_true, if_neg Bool.false_ne_true, if_neg Bool.false_ne_true, mk3]
theorem signT_eq : signT (s.extract a s.size) = if two ((nl s).drop a) then bytes (((nl s).drop a).take 2) else if signL.contains (((nl s).drop a).getD 0 0) then bytes (((nl s).drop a).take 1) else ⟨#[]⟩ := by
  unfold signT
  have hx := sign_ext s a
  have e : ∀ n, (s.extract a s.size).extract 0 n = bytes (((nl s).drop a).take n) := fun n => by
    have := ext_bytes (s.extract a s.size) 0 n
    rw [Nat.zero_add, List.drop_zero, hx] at this
    exact this
  rw [twoB_eq, hx, e, e]
theorem size_bytes (t : List Nat) : (bytes t).size = t.length := by
  show (t.map UInt8.ofNat).toArray.size = _
  simp
theorem one_eq (r : List Nat) (hr : (nl s).drop a = r) : one s a =
    if blankB (r.getD 0 0) then (a + 1, [], 0)
    else if decide (r.getD 0 0 = 47) && (decide (1 < r.length) && decide (r.getD 1 0 = 47)) then (a + tw notNl r, [], 0)
    else if letterB (r.getD 0 0) true then (if 20 < tw letN r then (a, [], 32) else (a + tw letN r, [⟨if isWord (bytes (r.take (tw letN r))) then 2 else 1, a, bytes (r.take (tw letN r)), 0, 0, 0⟩], 0))
    else if digitB (r.getD 0 0) then (a + endR r, [numTok s a (a + tw digitB r)], errR r)
    else if (if two r then bytes (r.take 2) else if signL.contains (r.getD 0 0) then bytes (r.take 1) else ⟨#[]⟩).size = 0 then (a, [], 180) else (a + (if two r then bytes (r.take 2) else if signL.contains (r.getD 0 0) then bytes (r.take 1) else ⟨#[]⟩).size, [⟨5, a, if two r then bytes (r.take 2) else if signL.contains (r.getD 0 0) then bytes (r.take 1) else ⟨#[]⟩, 0, 0, 0⟩], 0) := by
  subst hr
  have h0 : at0 s a = ((nl s).drop a).getD 0 0 := at0_drop s a 0
  have h1 : isCom s a = (decide (((nl s).drop a).getD 0 0 = 47) && (decide (1 < ((nl s).drop a).length) && decide (((nl s).drop a).getD 1 0 = 47))) := by
    unfold isCom
    rw [h0, lt_drop, at0_drop]
  unfold one wordTok signTok
  rw [h0, h1, comE_eq, wordE_eq, digE_eq, numEnd_eq, numErr_eq, ext_bytes, signT_eq, Nat.add_sub_cancel_left]
/-- What the document's lexer finds at a place is told by what stands from there on. -/
theorem one_look (h : a < s.size) : match look ((nl s).drop a) with
    | .gap n => one s a = (a + n, [], 0)
    | .tok k n => one s a = (a + n, [mk k a (((nl s).drop a).take n)], 0)
    | .bad e => (one s a).2.2 = e ∧ e ≠ 0 := by
  have hN := numTok_eq s a
  have hln := len_drop s a
  have hO := one_eq s a _ rfl
  generalize (nl s).drop a = r at *
  unfold look
  by_cases c1 : blankB (r.getD 0 0) = true
  · rw [if_pos c1]
    rw [if_pos c1] at hO
    exact hO
  rw [if_neg c1]
  rw [if_neg c1] at hO
  by_cases c2 : (decide (r.getD 0 0 = 47) && (decide (1 < r.length) && decide (r.getD 1 0 = 47))) = true
  · rw [if_pos c2]
    rw [if_pos c2] at hO
    exact hO
  rw [if_neg c2]
  rw [if_neg c2] at hO
  by_cases c3 : letterB (r.getD 0 0) true = true
  · rw [if_pos c3]
    rw [if_pos c3] at hO
    by_cases c4 : 20 < tw letN r
    · rw [if_pos c4]
      rw [if_pos c4] at hO
      rw [hO]
      exact ⟨rfl, by decide⟩
    · rw [if_neg c4]
      rw [if_neg c4] at hO
      rw [hO]
      show _ = (_, [mk _ _ _], 0)
      cases isWord (bytes (r.take (tw letN r)))
      · rw [if_neg Bool.false_ne_true, if_neg Bool.false_ne_true, mk0 (by decide) (by decide)]
        rfl
      · rw [if_pos rfl, if_pos rfl, mk0 (by decide) (by decide)]
        rfl
  rw [if_neg c3]
  rw [if_neg c3] at hO
  by_cases c5 : digitB (r.getD 0 0) = true
  · rw [if_pos c5]
    rw [if_pos c5] at hO
    unfold lookN
    by_cases c6 : errR r = 0
    · rw [if_pos c6, hO, hN, c6]
    · rw [if_neg c6, hO]
      exact ⟨rfl, c6⟩
  rw [if_neg c5]
  rw [if_neg c5] at hO
  have hr : 0 < r.length := by omega
  by_cases c7 : two r = true
  · have h2 : 2 ≤ r.length := by
      unfold two at c7
      simp only [Bool.or_eq_true, decide_eq_true_eq] at c7
      rcases c7 with c7 | c7 <;> (have := congrArg List.length c7; rw [List.length_take] at this; simp at this; omega)
    rw [if_pos c7]
    simp only [c7, if_true] at hO
    rw [hO, size_bytes, List.length_take, Nat.min_eq_left h2, if_neg (by decide)]
    show _ = (_, [mk _ _ _], 0)
    rw [mk0 (by decide) (by decide)]
    rfl
  · rw [if_neg c7]
    simp only [c7] at hO
    by_cases c8 : signL.contains (r.getD 0 0) = true
    · rw [if_pos c8]
      simp only [c8, if_true] at hO
      have h1 : (r.take 1).length = 1 := by rw [List.length_take]; omega
      have hO2 : one s a = if (bytes (r.take 1)).size = 0 then (a, [], 180) else (a + (bytes (r.take 1)).size, [⟨5, a, bytes (r.take 1), 0, 0, 0⟩], 0) := hO
      rw [hO2, size_bytes, h1, if_neg (by decide)]
      show _ = (_, [mk _ _ _], 0)
      rw [mk0 (by decide) (by decide)]
      rfl
    · rw [if_neg c8]
      have hO2 : one s a = (a, [], 180) := by
        rw [hO]
        simp only [c8]
        rfl
      rw [hO2]
      exact ⟨rfl, by decide⟩
end

/-! ### The shapes of tokens -/
theorem letN_def (c : Nat) : letN c = true ↔ (97 ≤ c ∧ c ≤ 122 ∨ 65 ≤ c ∧ c ≤ 90 ∨ c = 95 ∨ c = 36) ∨ (48 ≤ c ∧ c ≤ 57) := by unfold letN letterB; simp
theorem letT_def (c : Nat) : letterB c true = true ↔ (97 ≤ c ∧ c ≤ 122 ∨ 65 ≤ c ∧ c ≤ 90 ∨ c = 95 ∨ c = 36) := by unfold letterB; simp
theorem dig_def (c : Nat) : digitB c = true ↔ 48 ≤ c ∧ c ≤ 57 := by unfold digitB; simp
theorem blank_def (c : Nat) : blankB c = true ↔ c = 32 ∨ c = 9 ∨ c = 10 ∨ c = 13 := by unfold blankB; simp
theorem sign_def (c : Nat) : signL.contains c = true ↔ c ∈ signL := by simp
theorem sign_in {c : Nat} (h : c ∈ signL) : c = 123 ∨ c = 125 ∨ c = 40 ∨ c = 41 ∨ c = 91 ∨ c = 93 ∨ c = 59 ∨ c = 44 ∨ c = 46 ∨ c = 61 ∨ c = 60 ∨ c = 43 ∨ c = 45 ∨ c = 42 ∨ c = 47 ∨ c = 37 ∨ c = 126 := by
  simpa [signL] using h
theorem no_of {b : Bool} (h : ¬ b = true) : b = false := by simpa using h

inductive Shape : Nat → List Nat → Prop where
  | word (c : Nat) (x : List Nat) (h1 : letterB c true = true) (h2 : ∀ d ∈ c :: x, letN d = true) (h3 : (c :: x).length ≤ 20) : Shape (if isWord (bytes (c :: x)) then 2 else 1) (c :: x)
  | num (c : Nat) (x : List Nat) (h : ∀ d ∈ c :: x, digitB d = true) (h3 : (c :: x).length ≤ 18) : Shape 3 (c :: x)
  | cplx (c : Nat) (x : List Nat) (e : Nat) (h : ∀ d ∈ c :: x, digitB d = true) (h3 : (c :: x).length ≤ 15) (he : e = 99 ∨ e = 105) : Shape 4 (c :: x ++ [e])
  | one (c : Nat) (h : c ∈ signL) : Shape 5 [c]
  | two (c : Nat) (h : c = 61 ∨ c = 33) : Shape 5 [c, 61]
/-- What may stand right behind a token. -/
def Next (x r : List Nat) : Prop := ∀ c, r.head? = some c → letN c = false ∧ c ≠ 61 ∧ (x = [47] → c ≠ 47)
theorem Next.nil (x : List Nat) : Next x [] := fun c h => by simp at h
theorem Next.blank (x r : List Nat) : Next x (32 :: r) := fun c h => by
  obtain rfl : c = 32 := by simpa using h.symm
  exact ⟨rfl, by decide, fun _ => by decide⟩
theorem Next.letters {x r : List Nat} (h : Next x r) : tw letN r = 0 := tw_stop fun c hc => (h c hc).1
theorem dig_let {c : Nat} (h : letN c = false) : digitB c = false := by
  cases hd : digitB c with
  | false => rfl
  | true =>
    have := (letN_def c).2 (.inr ((dig_def c).1 hd))
    rw [h] at this
    exact absurd this (by decide)
theorem Next.digits {x r : List Nat} (h : Next x r) : tw digitB r = 0 := tw_stop fun c hc => dig_let (h c hc).1
theorem getD_app (x : List Nat) (r : List Nat) : (x ++ r).getD x.length 0 = r.getD 0 0 := by
  rw [List.getD_eq_getElem?_getD, List.getElem?_append_right (Nat.le_refl _), Nat.sub_self, List.getD_eq_getElem?_getD]
theorem Next.at {x r : List Nat} (h : Next x r) (hr : 0 < r.length) : letN (r.getD 0 0) = false ∧ r.getD 0 0 ≠ 61 ∧ (x = [47] → r.getD 0 0 ≠ 47) := by
  cases r with
  | nil => simp at hr
  | cons c r => exact h c rfl

theorem look_word {c : Nat} {x r : List Nat} (h1 : letterB c true = true) (h2 : ∀ d ∈ c :: x, letN d = true) (h3 : (c :: x).length ≤ 20) (hr : Next (c :: x) r) :
    look (c :: x ++ r) = .tok (if isWord (bytes (c :: x)) then 2 else 1) (c :: x).length := by
  have ht : tw letN (c :: x ++ r) = (c :: x).length := by rw [tw_app h2, hr.letters]; rfl
  have hc := (letT_def c).1 h1
  have c1 : ¬ blankB c = true := fun h => by have := (blank_def c).1 h; omega
  have c2 : c ≠ 47 := by omega
  have hx : (c :: x ++ r).take (c :: x).length = c :: x := List.take_left' rfl
  unfold look
  rw [ht, hx]
  show (if blankB c then _ else if decide (c = 47) && _ then _ else if letterB c true then _ else _) = _
  rw [if_neg c1, decide_eq_false c2, Bool.false_and, if_neg Bool.false_ne_true, if_pos h1, if_neg (by omega)]
theorem look_digits {c : Nat} {x : List Nat} (h : ∀ d ∈ c :: x, digitB d = true) (r : List Nat) : look (c :: x ++ r) = lookN (c :: x ++ r) := by
  have hd := h c (by simp)
  have hc := (dig_def c).1 hd
  have c1 : ¬ blankB c = true := fun h => by have := (blank_def c).1 h; omega
  have c2 : c ≠ 47 := by omega
  have c3 : ¬ letterB c true = true := fun h => by have := (letT_def c).1 h; omega
  unfold look
  show (if blankB c then _ else if decide (c = 47) && _ then _ else if letterB c true then _ else if digitB c then _ else _) = _
  rw [if_neg c1, decide_eq_false c2, Bool.false_and, if_neg Bool.false_ne_true, if_neg c3, if_pos hd]
/-- So many digits, and behind them no digit. -/
theorem lookN_of {d : List Nat} (h : ∀ c ∈ d, digitB c = true) {r : List Nat} (hr : tw digitB r = 0) (n : Nat) (hn : n = if sufR (d ++ r) d.length then d.length + 1 else d.length) :
    lookN (d ++ r) = if (if 18 < d.length then 32 else if sufR (d ++ r) d.length && decide (15 < d.length) then 32 else if decide (n < (d ++ r).length) && letN ((d ++ r).getD n 0) then 180 else 0) = 0 then .tok (if sufR (d ++ r) d.length then 4 else 3) n else .bad (if 18 < d.length then 32 else if sufR (d ++ r) d.length && decide (15 < d.length) then 32 else if decide (n < (d ++ r).length) && letN ((d ++ r).getD n 0) then 180 else 0) := by
  have ht : tw digitB (d ++ r) = d.length := by rw [tw_app h, hr]; rfl
  unfold lookN errR endR
  rw [ht, ← hn]
theorem suf_no {d r : List Nat} (h : ∀ c, r.head? = some c → letN c = false) : sufR (d ++ r) d.length = false := by
  unfold sufR
  rw [getD_app]
  cases r with
  | nil => rw [List.append_nil, decide_eq_false (Nat.lt_irrefl _)]; rfl
  | cons c r =>
    have hc := h c rfl
    have h1 : c ≠ 99 := fun e => by rw [e] at hc; exact absurd hc (by decide)
    have h2 : c ≠ 105 := fun e => by rw [e] at hc; exact absurd hc (by decide)
    show (_ && (decide (c = 99) || decide (c = 105))) = false
    rw [decide_eq_false h1, decide_eq_false h2, Bool.or_false, Bool.and_false]
theorem look_num {c : Nat} {x r : List Nat} (h : ∀ d ∈ c :: x, digitB d = true) (h3 : (c :: x).length ≤ 18) (hr : Next (c :: x) r) : look (c :: x ++ r) = .tok 3 (c :: x).length := by
  have hs : sufR (c :: x ++ r) (c :: x).length = false := suf_no fun c hc => (hr c hc).1
  rw [look_digits h, lookN_of h hr.digits (c :: x).length (by rw [hs]; rfl), hs, if_neg (by omega : ¬ 18 < (c :: x).length), Bool.false_and, if_neg Bool.false_ne_true]
  have : (decide ((c :: x).length < (c :: x ++ r).length) && letN ((c :: x ++ r).getD (c :: x).length 0)) = false := by
    rw [getD_app]
    by_cases hl : 0 < r.length
    · rw [(hr.at hl).1, Bool.and_false]
    · rw [decide_eq_false (by rw [List.length_append]; omega)]
      rfl
  rw [this]
  rfl
theorem look_cplx {c : Nat} {x r : List Nat} {e : Nat} (h : ∀ d ∈ c :: x, digitB d = true) (h3 : (c :: x).length ≤ 15) (he : e = 99 ∨ e = 105) (hr : Next (c :: x ++ [e]) r) : look (c :: x ++ [e] ++ r) = .tok 4 (c :: x ++ [e]).length := by
  rw [List.append_assoc]
  have h0 : tw digitB ([e] ++ r) = 0 := tw_stop fun d hd => by
    obtain rfl : d = e := by simpa using hd.symm
    rcases he with rfl | rfl <;> rfl
  have hg : (c :: x ++ ([e] ++ r)).getD (c :: x).length 0 = e := by rw [getD_app]; rfl
  have hl : (c :: x).length < (c :: x ++ ([e] ++ r)).length := by simp
  have hs : sufR (c :: x ++ ([e] ++ r)) (c :: x).length = true := by
    unfold sufR
    rw [hg, decide_eq_true hl]
    rcases he with rfl | rfl <;> rfl
  rw [look_digits h, lookN_of h h0 ((c :: x).length + 1) (by rw [hs]; rfl), hs, if_neg (by omega : ¬ 18 < (c :: x).length), decide_eq_false (by omega : ¬ 15 < (c :: x).length), Bool.and_false, if_neg Bool.false_ne_true]
  have : (decide ((c :: x).length + 1 < (c :: x ++ ([e] ++ r)).length) && letN ((c :: x ++ ([e] ++ r)).getD ((c :: x).length + 1) 0)) = false := by
    have e1 : (c :: x).length + 1 = (c :: x ++ [e]).length := by simp
    rw [← List.append_assoc, e1, getD_app]
    by_cases hl : 0 < r.length
    · rw [(hr.at hl).1, Bool.and_false]
    · rw [decide_eq_false (by rw [@List.length_append _ (c :: x ++ [e]) _]; omega)]
      rfl
  rw [this]
  show Ev.tok 4 _ = _
  rw [List.length_append]
  rfl
theorem look_one {c : Nat} {r : List Nat} (h : c ∈ signL) (hr : Next [c] r) : look ([c] ++ r) = .tok 5 1 := by
  have hc := sign_in h
  have c1 : ¬ blankB c = true := fun h => by have := (blank_def c).1 h; omega
  have c3 : ¬ letterB c true = true := fun h => by have := (letT_def c).1 h; omega
  have c4 : ¬ digitB c = true := fun h => by have := (dig_def c).1 h; omega
  have c2 : (decide (c = 47) && (decide (1 < ([c] ++ r).length) && decide (([c] ++ r).getD 1 0 = 47))) = false := by
    by_cases e : c = 47
    · cases r with
      | nil => simp
      | cons d r =>
        have : d ≠ 47 := (hr d rfl).2.2 (by rw [e])
        show (_ && (_ && decide (d = 47))) = false
        rw [decide_eq_false this, Bool.and_false, Bool.and_false]
    · rw [decide_eq_false e, Bool.false_and]
  have c5 : two ([c] ++ r) = false := by
    unfold two
    cases r with
    | nil => simp
    | cons d r =>
      have hd : d ≠ 61 := (hr d rfl).2.1
      simp [hd]
  have e0 : ([c] ++ r).getD 0 0 = c := rfl
  unfold look
  rw [e0, c2, c5, if_neg c1, if_neg Bool.false_ne_true, if_neg c3, if_neg c4, if_neg Bool.false_ne_true, if_pos ((sign_def c).2 h)]
theorem look_two {c : Nat} {r : List Nat} (h : c = 61 ∨ c = 33) : look ([c, 61] ++ r) = .tok 5 2 := by
  have c1 : ¬ blankB c = true := fun h => by have := (blank_def c).1 h; omega
  have c3 : ¬ letterB c true = true := fun h => by have := (letT_def c).1 h; omega
  have c4 : ¬ digitB c = true := fun h => by have := (dig_def c).1 h; omega
  have c2 : c ≠ 47 := by omega
  have c5 : two ([c, 61] ++ r) = true := by
    unfold two
    rcases h with rfl | rfl <;> simp
  unfold look
  rw [c5]
  show (if blankB c then _ else if decide (c = 47) && _ then _ else if letterB c true then _ else if digitB c then _ else if _ then _ else _) = _
  rw [if_neg c1, decide_eq_false c2, Bool.false_and, if_neg Bool.false_ne_true, if_neg c3, if_neg c4, if_pos rfl]
/-- A token is found again wherever it stands, behind whatever may not stand right behind it. -/
theorem look_shape {k : Nat} {x r : List Nat} (h : Shape k x) (hr : Next x r) : look (x ++ r) = .tok k x.length := by
  cases h with
  | word c x h1 h2 h3 => exact look_word h1 h2 h3 hr
  | num c x h h3 => exact look_num h h3 hr
  | cplx c x e h h3 he => exact look_cplx h h3 he hr
  | one c h => exact look_one h hr
  | two c h => exact look_two h
theorem Shape.pos {k : Nat} {x : List Nat} (h : Shape k x) : 0 < x.length := by cases h <;> simp

theorem getD0_cons {r : List Nat} (h : 0 < r.length) : ∃ c r2, r = c :: r2 := by
  cases r with
  | nil => simp at h
  | cons c r => exact ⟨c, r, rfl⟩
theorem tw_take_cons {p : Nat → Bool} {c : Nat} {r : List Nat} (h : p c = true) : (c :: r).take (tw p (c :: r)) = c :: r.take (tw p r) := by rw [tw_yes h, List.take_succ_cons]
/-- What is found is a token's shape. -/
theorem shape_look {k n : Nat} {r : List Nat} (hr : 0 < r.length) (h : look r = .tok k n) : n ≤ r.length ∧ Shape k (r.take n) := by
  obtain ⟨c, r, rfl⟩ := getD0_cons hr
  unfold look at h
  have e0 : (c :: r).getD 0 0 = c := rfl
  rw [e0] at h
  split at h
  · cases h
  split at h
  · cases h
  split at h
  · rename_i c3
    split at h
    · cases h
    · rename_i c4
      have hl : letN c = true := (letN_def c).2 (.inl ((letT_def c).1 c3))
      have ha := tw_take letN (c :: r)
      have hle := tw_le letN (c :: r)
      have hlen : ((c :: r).take (tw letN (c :: r))).length = tw letN (c :: r) := by rw [List.length_take]; omega
      simp only [Ev.tok.injEq] at h
      obtain ⟨rfl, rfl⟩ := h
      refine ⟨hle, ?_⟩
      rw [tw_take_cons hl] at ha hlen ⊢
      exact .word c _ c3 ha (by omega)
  split at h
  · rename_i c5
    unfold lookN at h
    split at h
    · rename_i he
      have ha := tw_take digitB (c :: r)
      have hle := tw_le digitB (c :: r)
      have hlen : ((c :: r).take (tw digitB (c :: r))).length = tw digitB (c :: r) := by rw [List.length_take]; omega
      unfold errR at he
      split at he
      · exact absurd he (by decide)
      rename_i h18
      split at he
      · exact absurd he (by decide)
      rename_i h15
      simp only [Ev.tok.injEq] at h
      obtain ⟨hk, hn⟩ := h
      unfold endR at hn
      cases hs : sufR (c :: r) (tw digitB (c :: r)) with
      | false =>
        rw [hs] at hk hn
        rw [if_neg Bool.false_ne_true] at hk hn
        subst hk hn
        refine ⟨hle, ?_⟩
        rw [tw_take_cons c5] at ha hlen ⊢
        exact .num c _ ha (by omega)
      | true =>
        rw [hs] at hk hn h15
        rw [if_pos rfl] at hk hn
        subst hk hn
        unfold sufR at hs
        rw [Bool.and_eq_true, Bool.or_eq_true, decide_eq_true_eq, decide_eq_true_eq, decide_eq_true_eq] at hs
        have h15' : ¬ 15 < tw digitB (c :: r) := fun e => h15 (by rw [decide_eq_true e]; rfl)
        refine ⟨hs.1, ?_⟩
        rw [List.take_add_one, List.getElem?_eq_getElem hs.1, Option.toList_some]
        have hg : (c :: r).getD (tw digitB (c :: r)) 0 = (c :: r)[tw digitB (c :: r)] := by rw [List.getD_eq_getElem?_getD, List.getElem?_eq_getElem hs.1]; rfl
        rw [hg] at hs
        generalize (c :: r)[tw digitB (c :: r)]'hs.1 = e at hs
        rw [tw_take_cons c5] at ha hlen ⊢
        exact .cplx c _ e ha (by omega) hs.2
    · cases h
  split at h
  · rename_i c6
    simp only [Ev.tok.injEq] at h
    obtain ⟨rfl, rfl⟩ := h
    unfold two at c6
    simp only [Bool.or_eq_true, decide_eq_true_eq] at c6
    refine ⟨?_, ?_⟩
    · rcases c6 with c6 | c6 <;> (have := congrArg List.length c6; rw [List.length_take] at this; simp at this ⊢; omega)
    · rcases c6 with c6 | c6 <;> rw [c6]
      · exact .two 61 (.inl rfl)
      · exact .two 33 (.inr rfl)
  split at h
  · rename_i c7
    simp only [Ev.tok.injEq] at h
    obtain ⟨rfl, rfl⟩ := h
    exact ⟨by simp, .one c ((sign_def c).1 c7)⟩
  · cases h
theorem gap_look {n : Nat} {r : List Nat} (hr : 0 < r.length) (h : look r = .gap n) : 0 < n ∧ n ≤ r.length := by
  obtain ⟨c, r, rfl⟩ := getD0_cons hr
  unfold look at h
  have e0 : (c :: r).getD 0 0 = c := rfl
  rw [e0] at h
  split at h
  · cases h
    exact ⟨by decide, by simp⟩
  split at h
  · rename_i c2
    cases h
    rw [Bool.and_eq_true, decide_eq_true_eq] at c2
    refine ⟨?_, tw_le _ _⟩
    rw [tw_yes (by rw [c2.1]; rfl)]
    omega
  split at h
  · split at h <;> cases h
  split at h
  · unfold lookN at h
    split at h <;> cases h
  split at h
  · cases h
  split at h <;> cases h

/-! ### All tokens of a text -/
abbrev T0 := Nat × Nat × List Nat
inductive Lx : List Nat → Nat → List T0 → Prop where
  | nil (a : Nat) : Lx [] a []
  | gap {r : List Nat} {a n : Nat} {ts : List T0} (hr : 0 < r.length) (h : look r = .gap n) (t : Lx (r.drop n) (a + n) ts) : Lx r a ts
  | tok {r : List Nat} {a k n : Nat} {ts : List T0} (hr : 0 < r.length) (h : look r = .tok k n) (t : Lx (r.drop n) (a + n) ts) : Lx r a ((k, a, r.take n) :: ts)
def mkAll (ts : List T0) : List Tk := ts.map fun t => mk t.1 t.2.1 t.2.2
def endT (s : ByteArray) : Tk := ⟨6, s.size, ⟨#[]⟩, 0, 0, 0⟩
section
variable (s : ByteArray)
theorem drop_drop (a n : Nat) : ((nl s).drop a).drop n = (nl s).drop (a + n) := by rw [List.drop_drop]
/-- Where the document's lexer tells tokens. -/
theorem lexF_ok : ∀ (f a : Nat) (l : List Tk), a ≤ s.size → s.size < a + f → (lexF s f a l).2.2 = 0 → ∃ ts, Lx ((nl s).drop a) a ts ∧ lexF s f a l = (0, l ++ mkAll ts ++ [endT s], 0)
  | 0, a, l, h1, h2, _ => by omega
  | f + 1, a, l, h1, h2, h => by
    by_cases ha : a < s.size
    · have ho := one_look s a ha
      have hr : 0 < ((nl s).drop a).length := by rw [len_drop]; omega
      have hl := len_drop s a
      cases hk : look ((nl s).drop a) with
      | gap n =>
        rw [hk] at ho
        have hg := gap_look hr hk
        have e : lexF s (f + 1) a l = lexF s f (a + n) (l ++ []) := (lexF_go rfl ha ho).symm
        rw [e] at h
        obtain ⟨ts, t1, t2⟩ := lexF_ok f (a + n) (l ++ []) (by omega) (by omega) h
        refine ⟨ts, .gap hr hk (by rw [drop_drop]; exact t1), ?_⟩
        rw [e, t2, List.append_nil]
      | tok k n =>
        rw [hk] at ho
        have hg := shape_look hr hk
        have hp := hg.2.pos
        rw [List.length_take] at hp
        have e : lexF s (f + 1) a l = lexF s f (a + n) (l ++ [mk k a (((nl s).drop a).take n)]) := (lexF_go rfl ha ho).symm
        rw [e] at h
        obtain ⟨ts, t1, t2⟩ := lexF_ok f (a + n) _ (by omega) (by omega) h
        refine ⟨_, .tok hr hk (by rw [drop_drop]; exact t1), ?_⟩
        rw [e, t2]
        unfold mkAll
        simp
      | bad e =>
        rw [hk] at ho
        have := lexF_bad (R := lexF s (f + 1) a l) rfl ha (b := (one s a).1) (m := (one s a).2.1) (e := (one s a).2.2) rfl (by rw [ho.1]; exact ho.2)
        rw [this] at h
        exact absurd (ho.1.symm.trans h) ho.2
    · have he := lexF_end (R := lexF s (f + 1) a l) rfl ha
      refine ⟨[], ?_, ?_⟩
      · rw [List.drop_eq_nil_of_le (by rw [nl_length]; omega)]
        exact .nil a
      · rw [he]
        unfold mkAll endT
        simp
/-- Where it tells none. -/
theorem lexF_err : ∀ (f a : Nat) (l : List Tk), a ≤ s.size → s.size < a + f → (lexF s f a l).2.2 ≠ 0 → (lexF s f a l).1 < s.size ∧ (lexF s f a l).2.1 = []
  | 0, a, l, h1, h2, _ => by omega
  | f + 1, a, l, h1, h2, h => by
    by_cases ha : a < s.size
    · have ho := one_look s a ha
      have hr : 0 < ((nl s).drop a).length := by rw [len_drop]; omega
      have hl := len_drop s a
      cases hk : look ((nl s).drop a) with
      | gap n =>
        rw [hk] at ho
        have hg := gap_look hr hk
        have e : lexF s (f + 1) a l = lexF s f (a + n) (l ++ []) := (lexF_go rfl ha ho).symm
        rw [e] at h ⊢
        exact lexF_err f (a + n) _ (by omega) (by omega) h
      | tok k n =>
        rw [hk] at ho
        have hg := shape_look hr hk
        have hp := hg.2.pos
        rw [List.length_take] at hp
        have e : lexF s (f + 1) a l = lexF s f (a + n) (l ++ [mk k a (((nl s).drop a).take n)]) := (lexF_go rfl ha ho).symm
        rw [e] at h ⊢
        exact lexF_err f (a + n) _ (by omega) (by omega) h
      | bad e =>
        rw [hk] at ho
        have := lexF_bad (R := lexF s (f + 1) a l) rfl ha (b := (one s a).1) (m := (one s a).2.1) (e := (one s a).2.2) rfl (by rw [ho.1]; exact ho.2)
        rw [this]
        exact ⟨ha, rfl⟩
    · have he := lexF_end (R := lexF s (f + 1) a l) rfl ha
      rw [he] at h
      exact absurd rfl h
/-- The other way round. -/
theorem lexF_of {r : List Nat} {a : Nat} {ts : List T0} (h : Lx r a ts) : ∀ (f : Nat) (l : List Tk), (nl s).drop a = r → a ≤ s.size → s.size < a + f → lexF s f a l = (0, l ++ mkAll ts ++ [endT s], 0) := by
  induction h with
  | nil a =>
    intro f l hr h1 h2
    have hl := len_drop s a
    rw [hr, List.length_nil] at hl
    obtain ⟨f, rfl⟩ : ∃ g, f = g + 1 := ⟨f - 1, by omega⟩
    rw [lexF_end (R := lexF s (f + 1) a l) rfl (by omega)]
    unfold mkAll endT
    simp
  | @gap r a n ts hr hk t ih =>
    intro f l he h1 h2
    have hl := len_drop s a
    rw [he] at hl
    have ha : a < s.size := by omega
    have ho := one_look s a ha
    rw [he, hk] at ho
    have hg := gap_look hr hk
    obtain ⟨f, rfl⟩ : ∃ g, f = g + 1 := ⟨f - 1, by omega⟩
    have e : lexF s (f + 1) a l = lexF s f (a + n) (l ++ []) := (lexF_go rfl ha ho).symm
    rw [e, ih f (l ++ []) (by rw [← drop_drop, he]) (by omega) (by omega), List.append_nil]
  | @tok r a k n ts hr hk t ih =>
    intro f l he h1 h2
    have hl := len_drop s a
    rw [he] at hl
    have ha : a < s.size := by omega
    have ho := one_look s a ha
    rw [he, hk] at ho
    have hg := shape_look hr hk
    have hp := hg.2.pos
    rw [List.length_take] at hp
    obtain ⟨f, rfl⟩ : ∃ g, f = g + 1 := ⟨f - 1, by omega⟩
    have e : lexF s (f + 1) a l = lexF s f (a + n) (l ++ [mk k a (r.take n)]) := (lexF_go rfl ha ho).symm
    rw [e, ih f _ (by rw [← drop_drop, he]) (by omega) (by omega)]
    unfold mkAll
    simp
theorem lexR_ok (h : (lexR s).2.2 = 0) : s.size ≤ 8000 ∧ ∃ ts, Lx (nl s) 0 ts ∧ lexR s = (0, mkAll ts ++ [endT s], 0) := by
  unfold lexR at h ⊢
  by_cases h8 : 8000 < s.size
  · rw [if_pos h8] at h
    exact absurd h (by decide)
  · rw [if_neg h8] at h ⊢
    obtain ⟨ts, t1, t2⟩ := lexF_ok s (s.size + 1) 0 [] (Nat.zero_le _) (by omega) h
    exact ⟨by omega, ts, t1, t2⟩
theorem lexR_err (h : (lexR s).2.2 ≠ 0) (h8 : s.size ≤ 8000) : (lexR s).1 < s.size ∧ (lexR s).2.1 = [] := by
  unfold lexR at h ⊢
  rw [if_neg (by omega)] at h ⊢
  exact lexF_err s (s.size + 1) 0 [] (Nat.zero_le _) (by omega) h
theorem lexR_of {ts : List T0} (h : Lx (nl s) 0 ts) (h8 : s.size ≤ 8000) : lexR s = (0, mkAll ts ++ [endT s], 0) := by
  unfold lexR
  rw [if_neg (by omega)]
  exact lexF_of s h (s.size + 1) [] rfl (Nat.zero_le _) (by omega)
end

/-! ### Where the tokens stand -/
def Ord : Nat → Nat → List T0 → Prop
  | a, N, [] => a ≤ N
  | a, N, t :: ts => a ≤ t.2.1 ∧ Ord (t.2.1 + t.2.2.length) N ts
theorem Ord.weak {a b N : Nat} : ∀ {ts : List T0}, Ord b N ts → a ≤ b → Ord a N ts
  | [], h, hab => Nat.le_trans hab h
  | _ :: _, h, hab => ⟨Nat.le_trans hab h.1, h.2⟩
theorem Ord.le {N : Nat} : ∀ {a : Nat} {ts : List T0}, Ord a N ts → a ≤ N
  | _, [], h => h
  | _, _ :: _, h => by have := Ord.le h.2; have := h.1; omega
theorem Lx.ord {r : List Nat} {a : Nat} {ts : List T0} (h : Lx r a ts) : Ord a (a + r.length) ts ∧ (∀ t ∈ ts, Shape t.1 t.2.2) ∧ ∀ t ∈ ts, (r.drop (t.2.1 - a)).take t.2.2.length = t.2.2 ∧ a ≤ t.2.1 := by
  induction h with
  | nil a => exact ⟨Nat.le_refl _, fun t ht => by simp at ht, fun t ht => by simp at ht⟩
  | @gap r a n ts hr hk t ih =>
    obtain ⟨h1, h2, h3⟩ := ih
    have hg := gap_look hr hk
    rw [List.length_drop] at h1
    rw [show a + n + (r.length - n) = a + r.length by omega] at h1
    refine ⟨h1.weak (by omega), h2, fun t ht => ?_⟩
    obtain ⟨g1, g2⟩ := h3 t ht
    rw [List.drop_drop, show n + (t.2.1 - (a + n)) = t.2.1 - a by omega] at g1
    exact ⟨g1, by omega⟩
  | @tok r a k n ts hr hk t ih =>
    obtain ⟨h1, h2, h3⟩ := ih
    have hg := shape_look hr hk
    rw [List.length_drop] at h1
    rw [show a + n + (r.length - n) = a + r.length by omega] at h1
    have hlen : (r.take n).length = n := by rw [List.length_take]; omega
    refine ⟨⟨Nat.le_refl _, ?_⟩, fun t ht => ?_, fun t ht => ?_⟩
    · show Ord (a + (r.take n).length) _ _
      rw [hlen]
      exact h1
    · rcases List.mem_cons.1 ht with rfl | ht
      · exact hg.2
      · exact h2 t ht
    · rcases List.mem_cons.1 ht with rfl | ht
      · refine ⟨?_, Nat.le_refl _⟩
        show (r.drop (a - a)).take (r.take n).length = r.take n
        rw [Nat.sub_self, List.drop_zero, hlen]
      · obtain ⟨g1, g2⟩ := h3 t ht
        rw [List.drop_drop, show n + (t.2.1 - (a + n)) = t.2.1 - a by omega] at g1
        exact ⟨g1, by omega⟩

/-! ### What is printed is read again -/
def tail0 (xs : List (List Nat)) : List Nat := xs.flatMap fun x => 32 :: x
def texts (ts : List T0) : List (List Nat) := ts.map fun t => t.2.2
def kx (ts : List T0) : List (Nat × List Nat) := ts.map fun t => (t.1, t.2.2)
theorem next_tail (x : List Nat) (xs : List (List Nat)) : Next x (tail0 xs) := by
  cases xs with
  | nil => exact Next.nil x
  | cons y ys => exact Next.blank x _
theorem lx_tail : ∀ (ts : List T0), (∀ t ∈ ts, Shape t.1 t.2.2) → ∀ a, ∃ ts2, Lx (tail0 (texts ts)) a ts2 ∧ kx ts2 = kx ts
  | [], _, a => ⟨[], .nil a, rfl⟩
  | t :: ts, h, a => by
    have hs := h t (by simp)
    obtain ⟨ts2, l1, l2⟩ := lx_tail ts (fun u hu => h u (by simp [hu])) (a + 1 + t.2.2.length)
    have e : tail0 (texts (t :: ts)) = 32 :: (t.2.2 ++ tail0 (texts ts)) := rfl
    rw [e]
    have hl := look_shape hs (next_tail t.2.2 (texts ts))
    have hp := hs.pos
    refine ⟨(t.1, a + 1, t.2.2) :: ts2, .gap (by simp) (show look (32 :: _) = .gap 1 by unfold look; rfl) ?_, ?_⟩
    · show Lx (t.2.2 ++ tail0 (texts ts)) (a + 1) _
      have := Lx.tok (a := a + 1) (ts := ts2) (by rw [List.length_append]; omega) hl (by rw [List.drop_left' rfl]; exact l1)
      rwa [List.take_left' rfl] at this
    · show (t.1, t.2.2) :: kx ts2 = (t.1, t.2.2) :: kx ts
      rw [l2]
def joinT (xs : List (List Nat)) : List Nat := match xs with
  | [] => []
  | x :: xs => x ++ tail0 xs
theorem lx_join (ts : List T0) (h : ∀ t ∈ ts, Shape t.1 t.2.2) : ∃ ts2, Lx (joinT (texts ts)) 0 ts2 ∧ kx ts2 = kx ts := by
  cases ts with
  | nil => exact ⟨[], .nil 0, rfl⟩
  | cons t ts =>
    have hs := h t (by simp)
    obtain ⟨ts2, l1, l2⟩ := lx_tail ts (fun u hu => h u (by simp [hu])) (0 + t.2.2.length)
    have hl := look_shape hs (next_tail t.2.2 (texts ts))
    have hp := hs.pos
    refine ⟨(t.1, 0, t.2.2) :: ts2, ?_, ?_⟩
    · show Lx (t.2.2 ++ tail0 (texts ts)) 0 _
      have := Lx.tok (a := 0) (ts := ts2) (by rw [List.length_append]; omega) hl (by rw [List.drop_left' rfl]; exact l1)
      rwa [List.take_left' rfl] at this
    · show (t.1, t.2.2) :: kx ts2 = (t.1, t.2.2) :: kx ts
      rw [l2]

/-! ### Prints -/
theorem Shape.lt {k : Nat} {x : List Nat} (h : Shape k x) : ∀ c ∈ x, c < 256 := by
  cases h with
  | word c x h1 h2 h3 => exact fun d hd => by have := (letN_def d).1 (h2 d hd); omega
  | num c x h h3 => exact fun d hd => by have := (dig_def d).1 (h d hd); omega
  | cplx c x e h h3 he =>
    intro d hd
    rcases List.mem_append.1 hd with hd | hd
    · have := (dig_def d).1 (h d hd)
      omega
    · obtain rfl := List.mem_singleton.1 hd
      omega
  | one c h =>
    intro d hd
    obtain rfl := List.mem_singleton.1 hd
    have := sign_in h
    omega
  | two c h =>
    intro d hd
    simp only [List.mem_cons, List.not_mem_nil, or_false] at hd
    omega
theorem Shape.k6 {k : Nat} {x : List Nat} (h : Shape k x) : ¬ (k : Int) = 6 := by
  cases h with
  | word c x h1 h2 h3 => split <;> decide
  | num => decide
  | cplx => decide
  | one => decide
  | two => decide
theorem size_list (s : ByteArray) : s.toList.isEmpty = decide (s.size = 0) := by
  rw [ByteArray.toList_eq]
  cases s with
  | mk d => cases d with
    | mk l => cases l <;> simp [ByteArray.size]
theorem size_app (a b : ByteArray) : (a ++ b).size = a.size + b.size := by
  rw [← nl_length, nl_app, List.length_append, nl_length, nl_length]
theorem prT_cons (A : ByteArray) (t : Tk) (l : List Tk) (h : ¬ t.kind = 6) : prT A (t :: l) = prT ((if A.toList.isEmpty then A else A ++ ⟨#[32]⟩) ++ t.text) l := by
  show (if t.kind = 6 then _ else _) = _
  rw [if_neg h]
theorem app_assoc (a b c : ByteArray) : a ++ b ++ c = a ++ (b ++ c) := nl_inj (by rw [nl_app, nl_app, nl_app, nl_app, List.append_assoc])
theorem prT_tail (e : Tk) (he : e.kind = 6) : ∀ (ts : List T0) (A : ByteArray), (∀ t ∈ ts, Shape t.1 t.2.2) → 0 < A.size → prT A (mkAll ts ++ [e]) = A ++ bytes (tail0 (texts ts))
  | [], A, _, _ => by
    show (if e.kind = 6 then A else _) = A ++ bytes []
    rw [if_pos he]
    exact nl_inj (by rw [nl_app]; show _ = nl A ++ []; rw [List.append_nil])
  | t :: ts, A, h, hA => by
    have hs := h t (by simp)
    have hp := hs.pos
    show prT A (mk t.1 t.2.1 t.2.2 :: (mkAll ts ++ [e])) = _
    rw [prT_cons _ _ _ hs.k6, size_list, decide_eq_false (by omega), if_neg Bool.false_ne_true]
    show prT (A ++ ⟨#[32]⟩ ++ bytes t.2.2) _ = A ++ bytes (32 :: (t.2.2 ++ tail0 (texts ts)))
    rw [prT_tail e he ts _ (fun u hu => h u (by simp [hu])) (by rw [size_app, size_app]; omega), app_assoc, app_assoc]
    have : bytes (32 :: (t.2.2 ++ tail0 (texts ts))) = ⟨#[32]⟩ ++ (bytes t.2.2 ++ bytes (tail0 (texts ts))) := by
      rw [← bytes_app]
      exact bytes_app [32] _
    rw [this]
theorem prT_all (e : Tk) (he : e.kind = 6) (ts : List T0) (h : ∀ t ∈ ts, Shape t.1 t.2.2) : prT ⟨#[]⟩ (mkAll ts ++ [e]) = bytes (joinT (texts ts)) := by
  cases ts with
  | nil =>
    show (if e.kind = 6 then _ else _) = _
    rw [if_pos he]
    rfl
  | cons t ts =>
    have hs := h t (by simp)
    have hp := hs.pos
    show prT ⟨#[]⟩ (mk t.1 t.2.1 t.2.2 :: (mkAll ts ++ [e])) = bytes (t.2.2 ++ tail0 (texts ts))
    rw [prT_cons _ _ _ hs.k6]
    have e0 : (if (⟨#[]⟩ : ByteArray).toList.isEmpty then (⟨#[]⟩ : ByteArray) else ⟨#[]⟩ ++ ⟨#[32]⟩) = ⟨#[]⟩ := by
      rw [size_list]
      rfl
    have e1 : (⟨#[]⟩ : ByteArray) ++ bytes t.2.2 = bytes t.2.2 := nl_inj (by rw [nl_app]; rfl)
    rw [e0]
    show prT (⟨#[]⟩ ++ bytes t.2.2) _ = _
    rw [e1, prT_tail e he ts _ (fun u hu => h u (by simp [hu])) (by rw [size_bytes]; omega), bytes_app]
theorem kx_texts {ts ts2 : List T0} (h : kx ts2 = kx ts) : texts ts2 = texts ts := by
  have := congrArg (List.map Prod.snd) h
  unfold kx at this
  rw [List.map_map, List.map_map] at this
  exact this
theorem kx_shape {ts ts2 : List T0} (h : kx ts2 = kx ts) (hs : ∀ t ∈ ts, Shape t.1 t.2.2) : ∀ t ∈ ts2, Shape t.1 t.2.2 := by
  intro t ht
  have : (t.1, t.2.2) ∈ kx ts := by
    rw [← h]
    exact List.mem_map.2 ⟨t, ht, rfl⟩
  obtain ⟨u, hu, e⟩ := List.mem_map.1 this
  simp only [Prod.mk.injEq] at e
  rw [← e.1, ← e.2]
  exact hs u hu
/-- What a token is but for its place. -/
def bare (t : Tk) : Int × ByteArray × Int × Nat × Nat := (t.kind, t.text, t.num, t.re, t.im)
theorem kx_bare {ts ts2 : List T0} (h : kx ts2 = kx ts) : (mkAll ts2).map bare = (mkAll ts).map bare := by
  have : ∀ us : List T0, (mkAll us).map bare = (kx us).map fun p => bare (mk p.1 0 p.2) := fun us => by
    unfold mkAll kx
    rw [List.map_map, List.map_map]
    refine List.map_congr_left fun t _ => rfl
  rw [this, this, h]
theorem tail_len (xs : List (List Nat)) : (tail0 xs).length = xs.length + (xs.map List.length).sum := by
  induction xs with
  | nil => rfl
  | cons x xs ih =>
    show (32 :: (x ++ tail0 xs)).length = _
    rw [List.length_cons, List.length_append, ih, List.map_cons, List.sum_cons, List.length_cons]
    omega
theorem join_len (xs : List (List Nat)) : (joinT xs).length ≤ xs.length + (xs.map List.length).sum := by
  cases xs with
  | nil => exact Nat.le_refl _
  | cons x xs =>
    show (x ++ tail0 xs).length ≤ _
    rw [List.length_append, tail_len, List.map_cons, List.sum_cons, List.length_cons]
    omega
theorem Ord.sum {N : Nat} : ∀ {ts : List T0} {a : Nat}, Ord a N ts → (∀ t ∈ ts, Shape t.1 t.2.2) → a + ((texts ts).map List.length).sum ≤ N ∧ (texts ts).length ≤ ((texts ts).map List.length).sum
  | [], a, h, _ => ⟨h, Nat.le_refl _⟩
  | t :: ts, a, h, hs => by
    obtain ⟨h1, h2⟩ := h
    obtain ⟨g1, g2⟩ := Ord.sum h2 (fun u hu => hs u (by simp [hu]))
    have hp := (hs t (by simp)).pos
    have e1 : ((texts (t :: ts)).map List.length).sum = t.2.2.length + ((texts ts).map List.length).sum := rfl
    have e2 : (texts (t :: ts)).length = (texts ts).length + 1 := rfl
    rw [e1, e2]
    omega

theorem join_lt (ts : List T0) (o2 : ∀ t ∈ ts, Shape t.1 t.2.2) : ∀ c ∈ joinT (texts ts), c < 256 := by
  have ht : ∀ us : List T0, (∀ t ∈ us, Shape t.1 t.2.2) → ∀ c ∈ tail0 (texts us), c < 256 := fun us hu c hc => by
    unfold tail0 texts at hc
    obtain ⟨x, hx, hc⟩ := List.mem_flatMap.1 hc
    obtain ⟨t, htm, rfl⟩ := List.mem_map.1 hx
    rcases List.mem_cons.1 hc with rfl | hc
    · decide
    · exact (hu t htm).lt c hc
  cases ts with
  | nil => intro c hc; simp [joinT, texts] at hc
  | cons t ts =>
    intro c hc
    rcases List.mem_append.1 hc with hc | hc
    · exact (o2 t (by simp)).lt c hc
    · exact ht ts (fun u hu => o2 u (by simp [hu])) c hc
theorem shape3 {x : List Nat} (h : Shape 3 x) : (∀ c ∈ x, digitB c = true) ∧ x.length ≤ 18 := by
  generalize hk : (3 : Nat) = k at h
  cases h with
  | word c x h1 h2 h3 => split at hk <;> omega
  | num c x h h3 => exact ⟨h, h3⟩
  | cplx => omega
  | one => omega
  | two => omega
theorem shape4 {x : List Nat} (h : Shape 4 x) : ∃ d e, x = d ++ [e] ∧ (∀ c ∈ d, digitB c = true) ∧ d.length ≤ 15 ∧ (e = 99 ∨ e = 105) := by
  generalize hk : (4 : Nat) = k at h
  cases h with
  | word c x h1 h2 h3 => split at hk <;> omega
  | num => omega
  | cplx c x e h h3 he => exact ⟨c :: x, e, rfl, h, h3, he⟩
  | one => omega
  | two => omega

/-- What is printed has the same tokens, and prints as0 itself. -/
theorem lex_back (s : ByteArray) (h : (lexR s).2.2 = 0) (hs : s.size ≤ 3000) : ∃ ts ts2 : List T0, ∃ p : ByteArray,
    lexR s = (0, mkAll ts ++ [endT s], 0) ∧ prT ⟨#[]⟩ (mkAll ts ++ [endT s]) = p ∧ p.size ≤ 6000 ∧ lexR p = (0, mkAll ts2 ++ [endT p], 0) ∧ (mkAll ts2).map bare = (mkAll ts).map bare ∧ prT ⟨#[]⟩ (mkAll ts2 ++ [endT p]) = p ∧
    Ord 0 s.size ts ∧ (∀ t ∈ ts, Shape t.1 t.2.2) ∧ ∀ t ∈ ts, s.extract t.2.1 (t.2.1 + t.2.2.length) = bytes t.2.2 := by
  obtain ⟨-, ts, t1, t2⟩ := lexR_ok s h
  obtain ⟨o1, o2, o3⟩ := t1.ord
  obtain ⟨ts2, l1, l2⟩ := lx_join ts o2
  rw [Nat.zero_add, nl_length] at o1
  have hlen : (bytes (joinT (texts ts))).size ≤ 6000 := by
    rw [size_bytes]
    have h1 := join_len (texts ts)
    have h2 := o1.sum o2
    omega
  have hlt := join_lt ts o2
  refine ⟨ts, ts2, bytes (joinT (texts ts)), t2, prT_all _ rfl ts o2, hlen, lexR_of _ (by rw [nl_bytes hlt]; exact l1) (by omega), kx_bare l2, ?_, o1, o2, fun t ht => ?_⟩
  · rw [prT_all _ rfl ts2 (kx_shape l2 o2), kx_texts l2]
  · obtain ⟨g1, -⟩ := o3 t ht
    rw [Nat.sub_zero] at g1
    rw [ext_bytes, g1]

/-! ### Numbers that are none -/
theorem look_big {c : Nat} {x r : List Nat} (h : ∀ d ∈ c :: x, digitB d = true) (h3 : 18 < (c :: x).length) (hr : tw digitB r = 0) : look (c :: x ++ r) = .bad 32 := by
  rw [look_digits h, lookN_of h hr _ rfl, if_pos h3]
  rfl
theorem look_bigc {c : Nat} {x r : List Nat} {e : Nat} (h : ∀ d ∈ c :: x, digitB d = true) (h3 : 15 < (c :: x).length) (he : e = 99 ∨ e = 105) : look (c :: x ++ (e :: r)) = .bad 32 := by
  have h0 : tw digitB (e :: r) = 0 := tw_stop fun d hd => by
    obtain rfl : d = e := by simpa using hd.symm
    rcases he with rfl | rfl <;> rfl
  have hg : (c :: x ++ (e :: r)).getD (c :: x).length 0 = e := by rw [getD_app]; rfl
  have hl : (c :: x).length < (c :: x ++ (e :: r)).length := by simp
  have hs : sufR (c :: x ++ (e :: r)) (c :: x).length = true := by
    unfold sufR
    rw [hg, decide_eq_true hl]
    rcases he with rfl | rfl <;> rfl
  rw [look_digits h, lookN_of h h0 _ rfl, hs, decide_eq_true h3]
  by_cases hh : 18 < (c :: x).length
  · rw [if_pos hh]
    rfl
  · rw [if_neg hh]
    rfl
theorem look_badn {c : Nat} {x r : List Nat} {e : Nat} (h : ∀ d ∈ c :: x, digitB d = true) (h3 : (c :: x).length ≤ 18) (hd : digitB e = false) (hl : letN e = true) (h1 : e ≠ 99) (h2 : e ≠ 105) : look (c :: x ++ (e :: r)) = .bad 180 := by
  have h0 : tw digitB (e :: r) = 0 := tw_stop fun d hd2 => by
    obtain rfl : d = e := by simpa using hd2.symm
    exact hd
  have hg : (c :: x ++ (e :: r)).getD (c :: x).length 0 = e := by rw [getD_app]; rfl
  have hlt : (c :: x).length < (c :: x ++ (e :: r)).length := by simp
  have hs : sufR (c :: x ++ (e :: r)) (c :: x).length = false := by
    unfold sufR
    rw [hg, decide_eq_false h1, decide_eq_false h2, Bool.or_false, Bool.and_false]
  rw [look_digits h, lookN_of h h0 (c :: x).length (by rw [hs]; rfl), hs, if_neg (by omega : ¬ 18 < (c :: x).length), Bool.false_and, if_neg Bool.false_ne_true, hg, hl, decide_eq_true hlt]
  rfl

/-! ### Notes and blanks between tokens -/
/-- A text that is blanks and notes, whatever stands behind it. -/
def Gap (b : List Nat) : Prop := ∀ (r : List Nat) (a : Nat) (ts : List T0), Lx r (a + b.length) ts → Lx (b ++ r) a ts
theorem Gap.nil : Gap [] := fun _ _ _ h => h
theorem Gap.app {b c : List Nat} (hb : Gap b) (hc : Gap c) : Gap (b ++ c) := fun r a ts h => by
  rw [List.append_assoc]
  refine hb _ _ _ (hc _ _ _ ?_)
  rwa [List.length_append, ← Nat.add_assoc] at h
theorem Gap.blank {c : Nat} (h : blankB c = true) : Gap [c] := fun r a ts t => by
  refine .gap (by simp) (n := 1) ?_ t
  unfold look
  show (if blankB c then _ else _) = _
  rw [if_pos h]
theorem tw_note {x r : List Nat} (h : ∀ c ∈ x, c ≠ 10) : tw notNl (x ++ 10 :: r) = x.length := by
  rw [tw_app (fun c hc => by unfold notNl; simp [h c hc]), tw_no rfl]
  rfl
theorem Gap.note {x : List Nat} (h : ∀ c ∈ x, c ≠ 10) : Gap (47 :: 47 :: x ++ [10]) := fun r a ts t => by
  have hx : ∀ c ∈ 47 :: 47 :: x, c ≠ 10 := fun c hc => by
    simp only [List.mem_cons] at hc
    rcases hc with rfl | rfl | hc
    · decide
    · decide
    · exact h c hc
  rw [List.append_assoc]
  refine .gap (by simp) (n := (47 :: 47 :: x).length) ?_ ?_
  · have ht : tw notNl (47 :: 47 :: x ++ ([10] ++ r)) = (47 :: 47 :: x).length := tw_note hx
    unfold look
    rw [ht]
    show (if false then _ else if (true && (decide (1 < (47 :: 47 :: x ++ ([10] ++ r)).length) && true)) then _ else _) = _
    rw [decide_eq_true (by simp)]
    rfl
  · rw [List.drop_left' rfl]
    refine Gap.blank (c := 10) rfl r _ ts ?_
    rw [List.length_append, ← Nat.add_assoc] at t
    exact t
/-- A token between. -/
theorem lx_tok {k : Nat} {x r : List Nat} (h : Shape k x) (hn : Next x r) {a : Nat} {ts : List T0} (t : Lx r (a + x.length) ts) : Lx (x ++ r) a ((k, a, x) :: ts) := by
  have hp := h.pos
  have := Lx.tok (a := a) (ts := ts) (by rw [List.length_append]; omega) (look_shape h hn) (by rw [List.drop_left' rfl]; exact t)
  rwa [List.take_left' rfl] at this

/-! ### For the laws -/
theorem look_long {c : Nat} {x r : List Nat} (h1 : letterB c true = true) (h2 : ∀ d ∈ c :: x, letN d = true) (h3 : 20 < (c :: x).length) : look (c :: x ++ r) = .bad 32 := by
  have ht : tw letN (c :: x ++ r) = (c :: x).length + tw letN r := tw_app h2 r
  have hc := (letT_def c).1 h1
  have c1 : ¬ blankB c = true := fun h => by have := (blank_def c).1 h; omega
  have c2 : c ≠ 47 := by omega
  unfold look
  rw [ht]
  show (if blankB c then _ else if decide (c = 47) && _ then _ else if letterB c true then _ else _) = _
  rw [if_neg c1, decide_eq_false c2, Bool.false_and, if_neg Bool.false_ne_true, if_pos h1, if_pos (by omega)]
theorem lexR_bad {s : ByteArray} {e : Nat} (h0 : 0 < s.size) (h8 : s.size ≤ 8000) (h : look (nl s) = .bad e) : lexR s = (0, [], e) := by
  have ho := one_look s 0 h0
  rw [List.drop_zero, h] at ho
  unfold lexR
  rw [if_neg (by omega)]
  have := lexF_bad (R := lexF s (s.size + 1) 0 []) rfl h0 (b := (one s 0).1) (m := (one s 0).2.1) (e := (one s 0).2.2) rfl (by rw [ho.1]; exact ho.2)
  rw [this, ho.1]
/-- Behind one blank. -/
theorem lexR_bad1 {s : ByteArray} {r : List Nat} {e : Nat} (hs : nl s = 32 :: r) (hr : 0 < r.length) (h8 : s.size ≤ 8000) (h : look r = .bad e) : lexR s = (1, [], e) := by
  have hl : s.size = r.length + 1 := by rw [← nl_length, hs]; rfl
  have g : look ((nl s).drop 0) = .gap 1 := by rw [List.drop_zero, hs]; unfold look; rfl
  have ho := one_look s 0 (by omega)
  rw [g] at ho
  have ho1 := one_look s 1 (by omega)
  have e1 : (nl s).drop 1 = r := by rw [hs]; rfl
  rw [e1, h] at ho1
  unfold lexR
  rw [if_neg (by omega)]
  have s1 : lexF s (s.size + 1) 0 [] = lexF s s.size (0 + 1) ([] ++ []) := (lexF_go rfl (by omega) ho).symm
  obtain ⟨f, hf⟩ : ∃ f, s.size = f + 1 := ⟨s.size - 1, by omega⟩
  rw [s1]
  have s2 := lexF_bad (s := s) (k := f) (a := 1) (l := []) (R := lexF s (f + 1) 1 []) rfl (by omega) (b := (one s 1).1) (m := (one s 1).2.1) (e := (one s 1).2.2) rfl (by rw [ho1.1]; exact ho1.2)
  rw [ho1.1] at s2
  have e2 : lexF s s.size (0 + 1) ([] ++ []) = lexF s (f + 1) 1 [] := by rw [← hf]; rfl
  rw [e2]
  exact s2
theorem lexR_one {s : ByteArray} {k : Nat} {x : List Nat} (h : Shape k x) (hs : nl s = x) (h8 : s.size ≤ 8000) : lexR s = (0, [mk k 0 x, endT s], 0) := by
  have t := lx_tok (r := []) h (Next.nil x) (a := 0) (.nil _)
  rw [List.append_nil, ← hs] at t
  have := lexR_of s t h8
  rw [hs] at this
  exact this
theorem lexR_one1 {s : ByteArray} {k : Nat} {x : List Nat} (h : Shape k x) (hs : nl s = 32 :: x) (h8 : s.size ≤ 8000) : lexR s = (0, [mk k 1 x, endT s], 0) := by
  have t := lx_tok (r := []) h (Next.nil x) (a := 1) (.nil _)
  rw [List.append_nil] at t
  have t2 := Gap.blank (c := 32) rfl x 0 _ t
  have t3 : Lx (nl s) 0 [(k, 1, x)] := by rw [hs]; exact t2
  exact lexR_of s t3 h8

/-- The words of LexNotes. -/
def nW : Nat → List Nat
  | 0 => [99, 108, 97, 115, 115]
  | 1 => [120]
  | 2 => [49, 50]
  | 3 => [51, 105]
  | 4 => [61, 61]
  | 5 => [61]
  | 6 => [123]
  | _ => [119, 104, 105, 108, 101]
def nK : Nat → Nat
  | 0 => 2
  | 1 => 1
  | 2 => 3
  | 3 => 4
  | 4 => 5
  | 5 => 5
  | 6 => 5
  | _ => 2
/-- What stands between them. -/
def nB : Nat → List Nat
  | 0 => [32]
  | 1 => [9, 32, 10]
  | 2 => [47, 47, 32, 123, 32, 53, 32, 35, 10]
  | 3 => [32, 47, 47, 10, 13]
  | _ => [10, 47, 47, 10]
theorem nShape (i : Nat) (hi : i < 8) : Shape (nK i) (nW i) := by
  have hw : ∀ x : List Nat, ∀ b, isWord (bytes x) = b → isWord (bytes x) = b := fun _ _ h => h
  match i, hi with
  | 0, _ =>
    have := Shape.word 99 [108, 97, 115, 115] (by decide) (by decide) (by decide)
    rw [if_pos (by decide +kernel)] at this
    exact this
  | 1, _ =>
    have := Shape.word 120 [] (by decide) (by decide) (by decide)
    rw [if_neg (by decide +kernel)] at this
    exact this
  | 2, _ => exact .num 49 [50] (by decide) (by decide)
  | 3, _ => exact .cplx 51 [] 105 (by decide) (by decide) (.inr rfl)
  | 4, _ => exact .two 61 (.inl rfl)
  | 5, _ => exact .one 61 (by decide)
  | 6, _ => exact .one 123 (by decide)
  | 7, _ =>
    have := Shape.word 119 [104, 105, 108, 101] (by decide) (by decide) (by decide)
    rw [if_pos (by decide +kernel)] at this
    exact this
theorem nGap (i : Nat) (hi : i < 5) : Gap (nB i) := by
  match i, hi with
  | 0, _ => exact Gap.blank (c := 32) rfl
  | 1, _ => exact (Gap.blank (c := 9) rfl).app ((Gap.blank (c := 32) rfl).app (Gap.blank (c := 10) rfl))
  | 2, _ => exact Gap.note (x := [32, 123, 32, 53, 32, 35]) (by decide)
  | 3, _ => exact (Gap.blank (c := 32) rfl).app ((Gap.note (x := []) (by decide)).app (Gap.blank (c := 13) rfl))
  | 4, _ => exact (Gap.blank (c := 10) rfl).app (Gap.note (x := []) (by decide))
theorem nNext (i j : Nat) (hi : i < 8) (hj : j < 5) (r : List Nat) : Next (nW i) (nB j ++ r) := by
  have hx : nW i ≠ [47] := by
    match i, hi with
    | 0, _ | 1, _ | 2, _ | 3, _ | 4, _ | 5, _ | 6, _ | 7, _ => decide
  match j, hj with
  | 0, _ => exact Next.blank _ _
  | 1, _ => exact fun c hc => by obtain rfl : c = 9 := by simpa [nB] using hc.symm
                                 exact ⟨rfl, by decide, fun _ => by decide⟩
  | 2, _ => exact fun c hc => by obtain rfl : c = 47 := by simpa [nB] using hc.symm
                                 exact ⟨rfl, by decide, fun e => absurd e hx⟩
  | 3, _ => exact Next.blank _ _
  | 4, _ => exact fun c hc => by obtain rfl : c = 10 := by simpa [nB] using hc.symm
                                 exact ⟨rfl, by decide, fun _ => by decide⟩
def plainL (gs : List Nat) : List Nat := gs.flatMap fun g => nW (g % 8) ++ [32]
def notedL (gs : List Nat) : List Nat := gs.flatMap fun g => nB (g / 8 % 5) ++ nW (g % 8) ++ nB (g / 40 % 5)
def nKx (gs : List Nat) : List (Nat × List Nat) := gs.map fun g => (nK (g % 8), nW (g % 8))
theorem lx_plain : ∀ (gs : List Nat) (a : Nat), ∃ ts, Lx (plainL gs) a ts ∧ kx ts = nKx gs
  | [], a => ⟨[], .nil a, rfl⟩
  | g :: gs, a => by
    have hs := nShape (g % 8) (Nat.mod_lt _ (by decide))
    obtain ⟨ts, l1, l2⟩ := lx_plain gs (a + (nW (g % 8)).length + 1)
    refine ⟨(nK (g % 8), a, nW (g % 8)) :: ts, ?_, ?_⟩
    · show Lx (nW (g % 8) ++ [32] ++ plainL gs) a _
      rw [List.append_assoc]
      exact lx_tok hs (Next.blank _ _) (Gap.blank (c := 32) rfl _ _ _ l1)
    · show _ :: kx ts = _ :: nKx gs
      rw [l2]
theorem lx_noted : ∀ (gs : List Nat) (a : Nat), ∃ ts, Lx (notedL gs) a ts ∧ kx ts = nKx gs
  | [], a => ⟨[], .nil a, rfl⟩
  | g :: gs, a => by
    have hs := nShape (g % 8) (Nat.mod_lt _ (by decide))
    have hb := nGap (g / 8 % 5) (Nat.mod_lt _ (by decide))
    have hc := nGap (g / 40 % 5) (Nat.mod_lt _ (by decide))
    obtain ⟨ts, l1, l2⟩ := lx_noted gs (a + (nB (g / 8 % 5)).length + (nW (g % 8)).length + (nB (g / 40 % 5)).length)
    refine ⟨(nK (g % 8), a + (nB (g / 8 % 5)).length, nW (g % 8)) :: ts, ?_, ?_⟩
    · show Lx (nB (g / 8 % 5) ++ nW (g % 8) ++ nB (g / 40 % 5) ++ notedL gs) a _
      rw [List.append_assoc, List.append_assoc]
      exact hb _ _ _ (lx_tok hs (nNext _ _ (Nat.mod_lt _ (by decide)) (Nat.mod_lt _ (by decide)) _) (hc _ _ _ l1))
    · show _ :: kx ts = _ :: nKx gs
      rw [l2]
/-- Notes and blanks change nothing but places. -/
theorem lex_notes (s t : ByteArray) (gs : List Nat) (hs : nl s = plainL gs) (ht : nl t = notedL gs) (h8 : s.size ≤ 8000) (h9 : t.size ≤ 8000) : ∃ ts us : List T0,
    lexR s = (0, mkAll ts ++ [endT s], 0) ∧ lexR t = (0, mkAll us ++ [endT t], 0) ∧ (mkAll us).map bare = (mkAll ts).map bare ∧ ts.length = gs.length ∧ prT ⟨#[]⟩ (mkAll ts ++ [endT s]) = prT ⟨#[]⟩ (mkAll us ++ [endT t]) := by
  obtain ⟨ts, l1, l2⟩ := lx_plain gs 0
  obtain ⟨us, m1, m2⟩ := lx_noted gs 0
  have e : kx us = kx ts := m2.trans l2.symm
  have hsh := l1.ord.2.1
  rw [← hs] at l1
  rw [← ht] at m1
  refine ⟨ts, us, lexR_of s l1 h8, lexR_of t m1 h9, kx_bare e, ?_, ?_⟩
  · have := congrArg List.length l2
    unfold kx nKx at this
    simpa using this
  · rw [prT_all _ rfl ts hsh, prT_all _ rfl us (kx_shape e hsh), kx_texts e]
end Go.Proofs.Ytmpahllkbpofnaa.Y
