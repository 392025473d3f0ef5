/- Plain mathematics of reading a decimal text letter by letter: what is known at each letter, and when no integer has the text. -/
import Derived.Test.YtkeadhplijclcaaMath
import Derived.Laws.Strings
namespace Go.Proofs.Ytkeadhplijclcaa

theorem nl_get (s : ByteArray) (k : Nat) (h : k < s.size) : (nl s)[k]? = some s[k].toNat := by
  unfold nl
  have h' : k < s.data.toList.length := by simpa using h
  rw [List.getElem?_map, List.getElem?_eq_getElem h']
  rfl

theorem nl_one (s : ByteArray) (c : UInt8) : (s.toList == [c]) = true ↔ nl s = [c.toNat] := by
  rw [beq_iff_eq, ByteArray.toList_eq]
  unfold nl
  constructor
  · intro h; rw [h]; rfl
  · intro h
    cases hc : s.data.toList with
    | nil => rw [hc] at h; simp at h
    | cons x xs =>
      rw [hc] at h
      cases xs with
      | nil => simp at h; rw [show x = c from UInt8.toNat_inj.1 h]
      | cons y ys => simp at h

/-- What is known of a text at its k-th letter: a sign or none, digits so far, worth V. -/
def Dig (s : ByteArray) (neg : Bool) (k V : Nat) : Prop :=
  ∃ body j, nl s = pre neg ++ body ∧ (neg = false → body.head? ≠ some 45) ∧ body.head? ≠ some 48 ∧ k = (pre neg).length + j ∧ j < body.length ∧
    (∀ c ∈ body.take j, 48 ≤ c ∧ c ≤ 57) ∧ V = worth ((body.take j).map (· - 48)) ∧ V ≤ most neg

/-- No integer has this text. -/
def NoInt (s : ByteArray) : Prop := ∀ m, rng m → nl s ≠ tx m

theorem body_no {s : ByteArray} {neg : Bool} {body : List Nat} (hL : nl s = pre neg ++ body) (hb : neg = false → body.head? ≠ some 45)
    (h : ∀ m : Int, m.natAbs ≤ most neg → (neg = true → 0 < m.natAbs) → body ≠ (digs m.natAbs).map (48 + ·)) : NoInt s := by
  intro m hr hm
  obtain ⟨a, b, c⟩ := body_of hL hb hm hr
  exact h m b (fun hn => by have := c.2 hn; omega) a

theorem list_cases {s : ByteArray} (h : 0 < s.size) : ∃ c t, nl s = c :: t ∧ c = s[0].toNat ∧ t.length + 1 = s.size := by
  have h1 := nl_get s 0 h
  cases hc : nl s with
  | nil => rw [hc] at h1; simp at h1
  | cons c t =>
    rw [hc] at h1
    have h2 := nl_length s
    rw [hc] at h2
    simp at h1 h2
    exact ⟨c, t, rfl, h1, h2⟩

theorem no_empty {s : ByteArray} (h : s.size = 0) : NoInt s := by
  have h2 := nl_length s
  have e : nl s = pre false ++ [] := by simp [pre]; exact List.length_eq_zero_iff.1 (by omega)
  refine body_no e (by simp) (fun m _ _ hx => digs_ne m.natAbs ?_)
  simpa using hx.symm

theorem no_dash {s : ByteArray} (h : s.size = 1) (hc : s[0].toNat = 45) : NoInt s := by
  obtain ⟨c, t, e, e1, e2⟩ := list_cases (s := s) (by omega)
  have et : t = [] := List.length_eq_zero_iff.1 (by omega)
  have e' : nl s = pre true ++ [] := by rw [e, et, e1, hc]; rfl
  refine body_no e' (by simp) (fun m _ _ hx => digs_ne m.natAbs ?_)
  simpa using hx.symm

theorem no_zero {s : ByteArray} {neg : Bool} {body : List Nat} (hL : nl s = pre neg ++ body) (h48 : body.head? = some 48) (hn : neg = false → body ≠ [48]) : NoInt s := by
  refine body_no hL (fun _ => by rw [h48]; simp) (fun m _ hp hx => ?_)
  by_cases h0 : m.natAbs = 0
  · cases neg with
    | true => have := hp rfl; omega
    | false => exact hn rfl (by rw [hx, h0, digs_small (by omega)]; rfl)
  · have hh := digs_head m.natAbs (by omega)
    cases hc : digs m.natAbs with
    | nil => exact digs_ne _ hc
    | cons d ds =>
      simp only [hc, List.head_cons] at hh
      rw [hx, hc] at h48
      simp at h48
      omega

theorem no_zero_pos {s : ByteArray} (h : 0 < s.size) (hc : s[0].toNat = 48) (hn : (s.toList == [48]) = false) : NoInt s := by
  obtain ⟨c, t, e, e1, e2⟩ := list_cases h
  refine no_zero (neg := false) (body := c :: t) (by rw [e]; rfl) (by rw [e1, hc]; rfl) (fun _ hx => ?_)
  have := (nl_one s 48).2 (by rw [e, hx]; rfl)
  rw [hn] at this
  exact absurd this (by simp)

theorem two_cases {s : ByteArray} (h : 1 < s.size) : ∃ c d t, nl s = c :: d :: t ∧ c = s[0].toNat ∧ d = s[1].toNat ∧ t.length + 2 = s.size := by
  obtain ⟨c, t, e, e1, e2⟩ := list_cases (s := s) (by omega)
  have h1 := nl_get s 1 h
  rw [e] at h1
  cases t with
  | nil => simp at h1
  | cons d t => simp at h1 e2; exact ⟨c, d, t, e, e1, h1, by omega⟩

theorem no_zero_neg {s : ByteArray} (h : 1 < s.size) (hc : s[0].toNat = 45) (hd : s[1].toNat = 48) : NoInt s := by
  obtain ⟨c, d, t, e, e1, e2, _⟩ := two_cases h
  exact no_zero (neg := true) (body := d :: t) (by rw [e, e1, hc]; rfl) (by rw [e2, hd]; rfl) (by simp)

theorem start_pos {s : ByteArray} (h : 0 < s.size) (h1 : s[0].toNat ≠ 45) (h2 : s[0].toNat ≠ 48) : Dig s false 0 0 := by
  obtain ⟨c, t, e, e1, _⟩ := list_cases h
  exact ⟨c :: t, 0, by rw [e]; rfl, fun _ => by simpa [e1] using h1, by simpa [e1] using h2, rfl, by simp, by simp, by simp [worth], by simp⟩

theorem start_neg {s : ByteArray} (h : 1 < s.size) (h1 : s[0].toNat = 45) (h2 : s[1].toNat ≠ 48) : Dig s true 1 0 := by
  obtain ⟨c, d, t, e, e1, e2, _⟩ := two_cases h
  exact ⟨d :: t, 0, by rw [e, e1, h1]; rfl, by simp, by simpa [e2] using h2, rfl, by simp, by simp, by simp [worth], by simp⟩

theorem Dig.size {s : ByteArray} {neg : Bool} {k V : Nat} (h : Dig s neg k V) : k < s.size ∧ V ≤ most neg := by
  obtain ⟨body, j, hL, _, _, hk, hj, _, _, hv⟩ := h
  have := congrArg List.length hL
  rw [nl_length, List.length_append] at this
  omega

theorem at_letter {s : ByteArray} {neg : Bool} {body : List Nat} {j k : Nat} (hL : nl s = pre neg ++ body) (hk : k = (pre neg).length + j) (hj : j < body.length) (h : k < s.size) : body[j] = s[k].toNat := by
  subst hk
  have h1 := nl_get s _ h
  rw [hL, List.getElem?_append_right (by omega), Nat.add_sub_cancel_left, List.getElem?_eq_getElem hj] at h1
  simpa only [Option.some.injEq] using h1

theorem take_next (body : List Nat) (j : Nat) (hj : j < body.length) : body.take (j + 1) = body.take j ++ [body[j]] := by
  rw [List.take_succ_eq_append_getElem hj]

/-- What an integer's text is worth, cut off behind any letter, is no more than the integer. -/
theorem cut_le (ds : List Nat) (j : Nat) : worth (ds.take j) ≤ worth ds := by
  have := worth_append_le (ds.take j) (ds.drop j)
  rwa [List.take_append_drop] at this

theorem Dig.no {s : ByteArray} {neg : Bool} {k V : Nat} (h : Dig s neg k V) (hs : k < s.size)
    (hx : s[k].toNat < 48 ∨ 57 < s[k].toNat ∨ most neg / 10 < V ∨ most neg < V * 10 + (s[k].toNat - 48)) : NoInt s := by
  obtain ⟨body, j, hL, hb, _, hk, hj, _, hv, _⟩ := h
  refine body_no hL hb (fun m hm _ he => ?_)
  have hc := at_letter hL hk hj hs
  have hjd : j < (digs m.natAbs).length := by rw [he] at hj; simpa using hj
  have e1 : body[j] = 48 + (digs m.natAbs)[j] := by simp [he]
  have hd := digs_lt m.natAbs _ (List.getElem_mem hjd)
  have ht := cut_le (digs m.natAbs) (j + 1)
  rw [List.take_succ_eq_append_getElem hjd, worth_snoc, worth_digs] at ht
  have ev : V = worth ((digs m.natAbs).take j) := by
    rw [hv, he, ← List.map_take, map48]
  rw [← ev] at ht
  omega

theorem Dig.next {s : ByteArray} {neg : Bool} {k V : Nat} (h : Dig s neg k V) (hs : k < s.size) (h1 : 48 ≤ s[k].toNat) (h2 : s[k].toNat ≤ 57)
    (h3 : V * 10 + (s[k].toNat - 48) ≤ most neg) (h4 : k + 1 < s.size) : Dig s neg (k + 1) (V * 10 + (s[k].toNat - 48)) := by
  obtain ⟨body, j, hL, hb, h48, hk, hj, hd, hv, _⟩ := h
  have hc := at_letter hL hk hj hs
  have hl := congrArg List.length hL
  rw [nl_length, List.length_append] at hl
  refine ⟨body, j + 1, hL, hb, h48, by omega, by omega, ?_, ?_, h3⟩
  · rw [take_next body j hj]
    intro c hx
    rcases List.mem_append.1 hx with hx | hx
    · exact hd c hx
    · simp at hx; omega
  · rw [take_next body j hj, List.map_append, List.map_cons, List.map_nil, worth_snoc, ← hv, hc]

theorem Dig.last {s : ByteArray} {neg : Bool} {k V : Nat} (h : Dig s neg k V) (hs : k < s.size) (h1 : 48 ≤ s[k].toNat) (h2 : s[k].toNat ≤ 57)
    (h3 : V * 10 + (s[k].toNat - 48) ≤ most neg) (h4 : s.size ≤ k + 1) :
    pok s = true ∧ pv s = (if neg then -((V * 10 + (s[k].toNat - 48) : Nat) : Int) else ((V * 10 + (s[k].toNat - 48) : Nat) : Int)) := by
  obtain ⟨body, j, hL, hb, h48, hk, hj, hd, hv, _⟩ := h
  have hc := at_letter hL hk hj hs
  have hl := congrArg List.length hL
  rw [nl_length, List.length_append] at hl
  have eb : body = body.take j ++ [body[j]] := by
    rw [← take_next body j hj, List.take_of_length_le (by omega)]
  have ew : worth (body.map (· - 48)) = V * 10 + (s[k].toNat - 48) := by
    rw [eb, List.map_append, List.map_cons, List.map_nil, worth_snoc, ← hv, hc]
  have hne : body ≠ [] := by intro hx; rw [hx] at hj; simp at hj
  have hdd : ∀ c ∈ body, 48 ≤ c ∧ c ≤ 57 := by
    rw [eb]
    intro c hx
    rcases List.mem_append.1 hx with hx | hx
    · exact hd c hx
    · simp at hx; omega
  have hh : body.head hne ≠ 48 := by
    intro hx; apply h48; rw [List.head?_eq_some_head hne, hx]
  have hfin := tx_of_body hL hne hdd hh (by rw [ew]; exact h3)
  rw [ew] at hfin
  have := parsed_yes hfin.2 hfin.1
  exact ⟨this.2, this.1⟩

theorem parsed_zero {s : ByteArray} (h : (s.toList == [48]) = true) : pv s = 0 ∧ pok s = true := by
  refine parsed_yes (m := 0) (by unfold rng; omega) ?_
  rw [(nl_one s 48).1 h]
  unfold tx
  rw [if_neg (by omega)]
  rfl

end Go.Proofs.Ytkeadhplijclcaa
