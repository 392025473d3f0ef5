/- Plain mathematics of decimal texts: the digits of a number, what digits are worth, and that the text of an integer tells just that integer. -/
import GoSem.Core.Value
namespace Go.Proofs.Ytkeadhplijclcaa

/-- The decimal digits of n, the first one first, f of them at most and one. -/
def digsTo : Nat → Nat → List Nat
  | 0, n => [n]
  | f + 1, n => if n < 10 then [n] else digsTo f (n / 10) ++ [n % 10]

theorem digsTo_enough : ∀ (f g n : Nat), n ≤ f → n ≤ g → digsTo f n = digsTo g n
  | 0, 0, _, _, _ => rfl
  | 0, g + 1, n, h, _ => by simp only [digsTo]; rw [if_pos (by omega)]
  | f + 1, 0, n, _, h => by simp only [digsTo]; rw [if_pos (by omega)]
  | f + 1, g + 1, n, hf, hg => by
    simp only [digsTo]
    by_cases h : n < 10
    · rw [if_pos h, if_pos h]
    · rw [if_neg h, if_neg h, digsTo_enough f g (n / 10) (by omega) (by omega)]

/-- The decimal digits of n, the first one first. -/
def digs (n : Nat) : List Nat := digsTo n n

/-- What a row of digits is worth. -/
def worth (ds : List Nat) : Nat := ds.foldl (fun a d => a * 10 + d) 0

theorem digs_small {n : Nat} (h : n < 10) : digs n = [n] := by
  unfold digs
  cases n with
  | zero => rfl
  | succ m => simp only [digsTo]; rw [if_pos h]
theorem digs_great {n : Nat} (h : ¬ n < 10) : digs n = digs (n / 10) ++ [n % 10] := by
  unfold digs
  cases n with
  | zero => exact absurd (by omega) h
  | succ m =>
    rw [digsTo, if_neg h, digsTo_enough m ((m + 1) / 10) ((m + 1) / 10) (by omega) (by omega)]

theorem worth_snoc (ds : List Nat) (d : Nat) : worth (ds ++ [d]) = worth ds * 10 + d := by simp [worth]

theorem worth_append_le (ds es : List Nat) : worth ds ≤ worth (ds ++ es) := by
  induction es generalizing ds with
  | nil => simp
  | cons d es ih =>
    have h1 := ih (ds ++ [d])
    rw [worth_snoc] at h1
    simp only [List.append_assoc, List.cons_append, List.nil_append] at h1
    omega

theorem digs_ne (n : Nat) : digs n ≠ [] := by
  by_cases h : n < 10
  · simp [digs_small h]
  · simp [digs_great h]

theorem worth_digs (n : Nat) : worth (digs n) = n := by
  induction n using Nat.strongRecOn with
  | _ n ih =>
    by_cases h : n < 10
    · rw [digs_small h]; simp [worth]
    · rw [digs_great h, worth_snoc, ih (n / 10) (by omega)]; omega

theorem digs_lt (n : Nat) : ∀ d ∈ digs n, d < 10 := by
  induction n using Nat.strongRecOn with
  | _ n ih =>
    by_cases h : n < 10
    · rw [digs_small h]; simpa using h
    · rw [digs_great h]
      intro d hd
      rcases List.mem_append.1 hd with hd | hd
      · exact ih (n / 10) (by omega) d hd
      · simp at hd; omega

theorem digs_head (n : Nat) (h0 : 0 < n) : (digs n).head (digs_ne n) ≠ 0 := by
  induction n using Nat.strongRecOn with
  | _ n ih =>
    by_cases h : n < 10
    · simp only [digs_small h, List.head_cons]; omega
    · have := ih (n / 10) (by omega) (by omega)
      simp only [digs_great h]
      rwa [List.head_append_of_ne_nil (digs_ne _)]

theorem digs_length (k n : Nat) (h : n < 10 ^ (k + 1)) : (digs n).length ≤ k + 1 := by
  induction k generalizing n with
  | zero => rw [digs_small (by simpa using h)]; simp
  | succ k ih =>
    by_cases h' : n < 10
    · rw [digs_small h']; simp
    · rw [digs_great h', List.length_append]
      have := ih (n / 10) (by rw [Nat.pow_succ] at h; omega)
      simp; omega

theorem worth_pos (ds : List Nat) (hn : ds ≠ []) (hh : ds.head hn ≠ 0) : 0 < worth ds := by
  cases ds with
  | nil => exact absurd rfl hn
  | cons d ds =>
    have := worth_append_le [d] ds
    simp [worth] at this hh ⊢
    omega

theorem digs_worth_aux (k : Nat) : ∀ (ds : List Nat) (hn : ds ≠ []), ds.length = k → ds.head hn ≠ 0 → (∀ d ∈ ds, d < 10) → digs (worth ds) = ds := by
  induction k with
  | zero => intro ds hn hl; exact absurd (List.length_eq_zero_iff.1 hl) hn
  | succ k ih =>
    intro ds hn hl hh hd
    obtain ⟨es, d, rfl⟩ : ∃ es d, ds = es ++ [d] := ⟨ds.dropLast, ds.getLast hn, (List.dropLast_concat_getLast hn).symm⟩
    have hd10 : d < 10 := hd d (by simp)
    by_cases he : es = []
    · subst he
      simp [worth, digs_small hd10]
    · have h1 := ih es he (by simpa using hl) (by rwa [List.head_append_of_ne_nil he] at hh) (fun x hx => hd x (by simp [hx]))
      have h2 := worth_pos es he (by rwa [List.head_append_of_ne_nil he] at hh)
      rw [worth_snoc, digs_great (by omega)]
      have e1 : (worth es * 10 + d) / 10 = worth es := by omega
      have e2 : (worth es * 10 + d) % 10 = d := by omega
      rw [e1, e2, h1]

theorem digs_worth (ds : List Nat) (hn : ds ≠ []) (hh : ds.head hn ≠ 0) (hd : ∀ d ∈ ds, d < 10) : digs (worth ds) = ds := digs_worth_aux _ ds hn rfl hh hd

/-- The text of an integer, letter by letter. -/
def tx (n : Int) : List Nat := (if n < 0 then [45] else []) ++ (digs n.natAbs).map (48 + ·)

/-- The integers that there are. -/
def rng (n : Int) : Prop := -9223372036854775808 ≤ n ∧ n ≤ 9223372036854775807

theorem map48 (ds : List Nat) : (ds.map (48 + ·)).map (· - 48) = ds := by
  rw [List.map_map]
  have : ((· - 48) ∘ (48 + ·) : Nat → Nat) = id := by funext x; simp
  rw [this, List.map_id]

/-- 45 at the head, if it is below nought. -/
def pre (neg : Bool) : List Nat := if neg then [45] else []

/-- How far from nought there are integers. -/
def most (neg : Bool) : Nat := if neg then 9223372036854775808 else 9223372036854775807

theorem body_of {L body : List Nat} {neg : Bool} {m : Int} (hL : L = pre neg ++ body) (hb : neg = false → body.head? ≠ some 45) (hm : L = tx m) (hr : rng m) :
    body = (digs m.natAbs).map (48 + ·) ∧ m.natAbs ≤ most neg ∧ (m < 0 ↔ neg = true) := by
  unfold rng at hr
  unfold tx at hm
  by_cases h : m < 0
  · rw [if_pos h] at hm
    cases neg with
    | false => simp [pre] at hL; subst hL; rw [hm] at hb; simp at hb
    | true =>
      simp [pre] at hL; rw [hL] at hm; simp at hm
      exact ⟨hm, by simp [most]; omega, by simp [h]⟩
  · rw [if_neg h] at hm
    cases neg with
    | false =>
      simp [pre] at hL; subst hL; simp at hm
      exact ⟨hm, by simp [most]; omega, by simp; omega⟩
    | true =>
      simp [pre] at hL; rw [hL] at hm
      have hx := digs_ne m.natAbs
      cases hc : digs m.natAbs with
      | nil => exact absurd hc hx
      | cons d ds => rw [hc] at hm; simp at hm; omega

theorem tx_head (m : Int) : (0 ≤ m → (tx m).head? ≠ some 45) := by
  intro h
  unfold tx
  rw [if_neg (by omega)]
  cases hc : digs m.natAbs with
  | nil => simp
  | cons d ds => simp; omega

theorem tx_inj {m n : Int} (h : tx m = tx n) (hm : rng m) (hn : rng n) : m = n := by
  by_cases h0 : n < 0
  · have a := body_of (L := tx n) (neg := true) (m := n) (by unfold tx pre; rw [if_pos h0]; rfl) (by simp) rfl hn
    have b := body_of (L := tx n) (neg := true) (m := m) (by unfold tx pre; rw [if_pos h0]; rfl) (by simp) h.symm hm
    have c := congrArg (fun l => worth (l.map (· - 48))) b.1
    simp only [map48, worth_digs] at c
    have := b.2.2.2 rfl
    omega
  · have e : tx n = pre false ++ (digs n.natAbs).map (48 + ·) := by unfold tx pre; rw [if_neg h0]; rfl
    have hh := tx_head n (by omega)
    rw [e] at hh
    have b := body_of (L := tx n) (neg := false) (m := m) e (fun _ => by simpa [pre] using hh) h.symm hm
    have c := congrArg (fun l => worth (l.map (· - 48))) b.1
    simp only [map48, worth_digs] at c
    have d := b.2.2
    simp at d
    omega

/-- The text is one: digits alone, the first of them no nought, worth no more than there is. -/
theorem tx_of_body {L body : List Nat} {neg : Bool} (hL : L = pre neg ++ body) (hn : body ≠ []) (hd : ∀ c ∈ body, 48 ≤ c ∧ c ≤ 57) (hh : body.head hn ≠ 48) (hv : worth (body.map (· - 48)) ≤ most neg) :
    L = tx (if neg then -(worth (body.map (· - 48)) : Int) else worth (body.map (· - 48))) ∧ rng (if neg then -(worth (body.map (· - 48)) : Int) else worth (body.map (· - 48))) := by
  have hmn : body.map (· - 48) ≠ [] := by simpa using hn
  have hhd : (body.map (· - 48)).head hmn ≠ 0 := by
    cases body with
    | nil => exact absurd rfl hn
    | cons c cs => have := hd c (by simp); simp at hh ⊢; omega
  have hd' : ∀ d ∈ body.map (· - 48), d < 10 := by
    intro d hx
    obtain ⟨c, hc, rfl⟩ := List.mem_map.1 hx
    have := hd c hc
    omega
  have e := digs_worth _ hmn hhd hd'
  have hp := worth_pos _ hmn hhd
  have eb : (body.map (· - 48)).map (48 + ·) = body := by
    rw [List.map_map]
    refine (List.map_congr_left fun c hc => ?_).trans (List.map_id body)
    have := hd c hc
    simp; omega
  generalize hV : worth (body.map (· - 48)) = V at *
  cases neg with
  | true =>
    simp [most] at hv
    refine ⟨?_, ?_⟩
    · simp only [if_true]
      unfold tx
      rw [if_pos (by omega), Int.natAbs_neg, Int.natAbs_natCast, e, eb, hL]; rfl
    · unfold rng; simp; omega
  | false =>
    simp [most] at hv
    refine ⟨?_, ?_⟩
    · simp only [Bool.false_eq_true, if_false]
      unfold tx
      rw [if_neg (by omega), Int.natAbs_natCast, e, eb, hL]; rfl
    · unfold rng; simp; omega

theorem digs_top (m : Int) (h : rng m) : (digs m.natAbs).length ≤ 19 := by
  unfold rng at h
  exact digs_length 18 _ (by have : (10 : Nat) ^ (18 + 1) = 10000000000000000000 := by decide
                             omega)

/-- The letters of a text, as numbers. -/
def nl (s : ByteArray) : List Nat := s.data.toList.map UInt8.toNat

/-- A text of letters. -/
def bstr (l : List Nat) : ByteArray := ⟨(l.map UInt8.ofNat).toArray⟩

theorem nl_bstr (l : List Nat) (h : ∀ c ∈ l, c < 256) : nl (bstr l) = l := by
  unfold nl bstr
  simp only [List.map_map]
  refine (List.map_congr_left fun c hc => ?_).trans (List.map_id l)
  have := h c hc
  simp [UInt8.toNat_ofNat']; omega

theorem bstr_nl (s : ByteArray) : bstr (nl s) = s := by
  unfold nl bstr
  rw [List.map_map]
  have : (UInt8.ofNat ∘ UInt8.toNat) = id := by funext x; simp
  rw [this, List.map_id]

theorem nl_inj {s t : ByteArray} (h : nl s = nl t) : s = t := by rw [← bstr_nl s, ← bstr_nl t, h]

theorem nl_length (s : ByteArray) : (nl s).length = s.size := by simp [nl]

theorem tx_lt (m : Int) : ∀ c ∈ tx m, c < 256 := by
  unfold tx
  intro c hc
  rcases List.mem_append.1 hc with h | h
  · split at h <;> simp at h; omega
  · obtain ⟨d, hd, rfl⟩ := List.mem_map.1 h
    have := digs_lt _ d hd
    omega

/-- What a text would be worth, if it were one. -/
def cand (L : List Nat) : Int := if L.head? = some 45 then -(worth ((L.drop 1).map (· - 48)) : Int) else worth (L.map (· - 48))

theorem cand_tx (m : Int) : cand (tx m) = m := by
  by_cases h : m < 0
  · have e : tx m = 45 :: (digs m.natAbs).map (48 + ·) := by unfold tx; rw [if_pos h]; rfl
    rw [e]
    unfold cand
    rw [if_pos (by rfl), List.drop_one, List.tail_cons, map48, worth_digs]
    omega
  · have hh := tx_head m (by omega)
    unfold cand
    rw [if_neg hh]
    unfold tx
    rw [if_neg h, List.nil_append, map48, worth_digs]
    omega

/-- Whether a text is an integer's. -/
def pok (s : ByteArray) : Bool := decide (-9223372036854775808 ≤ cand (nl s) ∧ cand (nl s) ≤ 9223372036854775807 ∧ nl s = tx (cand (nl s)))
/-- Which one's; 0, if none's. -/
def pv (s : ByteArray) : Int := if pok s then cand (nl s) else 0

theorem parsed_yes {s : ByteArray} {m : Int} (hr : rng m) (h : nl s = tx m) : pv s = m ∧ pok s = true := by
  have e : cand (nl s) = m := by rw [h]; exact cand_tx m
  have hp : pok s = true := by
    unfold pok
    rw [e]
    exact decide_eq_true ⟨hr.1, hr.2, h⟩
  exact ⟨by unfold pv; rw [hp, if_pos rfl, e], hp⟩

theorem parsed_no {s : ByteArray} (h : ∀ m, rng m → nl s ≠ tx m) : pv s = 0 ∧ pok s = false := by
  have hp : pok s = false := by
    unfold pok
    exact decide_eq_false fun hx => h _ ⟨hx.1, hx.2.1⟩ hx.2.2
  exact ⟨by unfold pv; rw [hp]; rfl, hp⟩

theorem parsed_rng (s : ByteArray) : rng (pv s) := by
  unfold pv
  by_cases hp : pok s = true
  · rw [if_pos hp]
    have := of_decide_eq_true hp
    exact ⟨this.1, this.2.1⟩
  · rw [if_neg hp]
    unfold rng
    omega

end Go.Proofs.Ytkeadhplijclcaa
