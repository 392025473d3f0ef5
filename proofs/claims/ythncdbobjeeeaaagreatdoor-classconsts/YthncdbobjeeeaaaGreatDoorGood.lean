/- Readers that take each thing in one form alone, and take all that was written: without memory. -/
import Derived.Test.YthncdbobjeeeaaaGreatDoorInv
import Derived.Test.YthncdbobjeeeaaaGreatDoorRd4
namespace Go.Proofs.YthncdbobjeeeaaaGreatDoor

/-- What is left, and the error. -/
abbrev St := List Nat × Nat
def By (s : St) : Prop := ∀ c ∈ s.1, c < 256
def InR (e : Nat) : Prop := e = 0 ∨ 30 ≤ e ∧ e ≤ 54

/-- Code, read. -/
def rCode (s : List Nat × Nat) : List (Int × Int) × (List Nat × Nat) :=
  if (tkT 20000 s).2.2 = 0 then ((gt (nl (tkT 20000 s).1)).1, ((tkT 20000 s).2.1, (gt (nl (tkT 20000 s).1)).2)) else ([], (tkT 20000 s).2)

/-- One byte that must be that one. -/
def mk1 (c : Nat) (s : List Nat × Nat) : List Nat × Nat := if (tkB s).1 = c then (tkB s).2 else ((tkB s).2.1, thn (tkB s).2.2 31)
/-- The mark. -/
def rMark (s : List Nat × Nat) : List Nat × Nat := mk1 1 (mk1 77 (mk1 79 (mk1 79 (mk1 76 s))))

def mkAt (s : List Nat × Nat) : Nat → List Nat × Nat
  | 0 => s
  | 1 => mk1 76 s
  | 2 => mk1 79 (mk1 76 s)
  | 3 => mk1 79 (mk1 79 (mk1 76 s))
  | _ => mk1 77 (mk1 79 (mk1 79 (mk1 76 s)))

/-- So many more read, behind these. -/
def rLoop {α : Type} (f : St → α × St) : Nat → List α → St → List α × St
  | 0, acc, s => (acc, s)
  | n + 1, acc, s => if s.2 ≠ 0 then (acc, s) else rLoop f n (acc ++ [(f s).1]) (f s).2
/-- A list, read. -/
def rL {α : Type} (most : Nat) (f : St → α × St) (s : St) : List α × St := rLoop f (tkN (most : Int) s).1 [] (tkN (most : Int) s).2

structure Good {α : Type} (f : St → α × St) (en : α → List Nat) (V F : α → Prop) : Prop where
  stuck : ∀ s : St, s.2 ≠ 0 → (f s).2 = s
  sound : ∀ s : St, By s → (f s).2.2 = 0 → s.2 = 0 ∧ s.1 = en (f s).1 ++ (f s).2.1
  compl : ∀ x r, V x → f (en x ++ r, 0) = (x, (r, 0))
  suff : ∀ s : St, ∃ k, (f s).2.1 = s.1.drop k
  range : ∀ s : St, InR s.2 → InR (f s).2.2
  fit : ∀ s : St, By s → F (f s).1

theorem Good.by_ {α : Type} {f : St → α × St} {en : α → List Nat} {V F : α → Prop} (h : Good f en V F) {s : St} (hs : By s) : By (f s).2 := by
  obtain ⟨k, e⟩ := h.suff s
  intro c hc
  rw [e] at hc
  exact hs c (List.mem_of_mem_drop hc)

/-- One behind the other. -/
def pr {α β : Type} (f : St → α × St) (g : St → β × St) (s : St) : (α × β) × St := (((f s).1, (g (f s).2).1), (g (f s).2).2)

theorem Good.pair {α β : Type} {f : St → α × St} {g : St → β × St} {en : α → List Nat} {en' : β → List Nat} {V F : α → Prop} {V' F' : β → Prop} (h : Good f en V F) (h' : Good g en' V' F') :
    Good (pr f g) (fun x => en x.1 ++ en' x.2) (fun x => V x.1 ∧ V' x.2) (fun x => F x.1 ∧ F' x.2) where
  stuck s hs := by
    unfold pr
    simp only []
    rw [h.stuck s hs]
    exact h'.stuck s hs
  sound s hs he := by
    unfold pr at he ⊢
    simp only [] at he ⊢
    obtain ⟨a1, a2⟩ := h'.sound _ (h.by_ hs) he
    obtain ⟨b1, b2⟩ := h.sound s hs a1
    exact ⟨b1, by rw [List.append_assoc, ← a2]; exact b2⟩
  compl x r hx := by
    unfold pr
    simp only [List.append_assoc]
    rw [h.compl x.1 _ hx.1]
    simp only []
    rw [h'.compl x.2 r hx.2]
  suff s := by
    obtain ⟨k, e⟩ := h.suff s
    obtain ⟨j, e'⟩ := h'.suff (f s).2
    exact ⟨k + j, by unfold pr; simp only []; rw [e', e, List.drop_drop]⟩
  range s hs := h'.range _ (h.range s hs)
  fit s hs := ⟨h.fit s hs, h'.fit _ (h.by_ hs)⟩

theorem Good.map {α β : Type} {f : St → α × St} {en : α → List Nat} {V F : α → Prop} (h : Good f en V F) (to : α → β) (fr : β → α) (e : ∀ a, fr (to a) = a) (g : St → β × St) (hg : ∀ s, g s = (to (f s).1, (f s).2)) (en' : β → List Nat) (hen : ∀ b, en' b = en (fr b)) :
    Good g en' (fun b => V (fr b) ∧ to (fr b) = b) (fun b => F (fr b)) where
  stuck s hs := by rw [hg]; exact h.stuck s hs
  sound s hs he := by
    rw [hg] at he ⊢
    simp only [] at he ⊢
    rw [hen, e]
    exact h.sound s hs he
  compl x r hx := by
    rw [hg, hen, h.compl _ r hx.1]
    simp only []
    rw [hx.2]
  suff s := by rw [hg]; exact h.suff s
  range s hs := by rw [hg]; exact h.range s hs
  fit s hs := by rw [hg]; simp only []; rw [e]; exact h.fit s hs

theorem Good.weaken {α : Type} {f : St → α × St} {en : α → List Nat} {V F V' F' : α → Prop} (h : Good f en V F) (hv : ∀ x, V' x → V x) (hf : ∀ x, F x → F' x) : Good f en V' F' :=
  ⟨h.stuck, h.sound, fun x r hx => h.compl x r (hv x hx), h.suff, h.range, fun s hs => hf _ (h.fit s hs)⟩

theorem goodB : Good tkB (fun c => [c]) (fun _ => True) (fun _ => True) where
  stuck s hs := by unfold tkB; rw [if_neg hs]
  sound s hs he := by
    obtain ⟨l, e⟩ := s
    unfold tkB at he ⊢
    by_cases h0 : e = 0
    · subst h0
      rw [if_pos rfl] at he ⊢
      cases l with
      | nil => simp [by1] at he
      | cons c r => exact ⟨rfl, by simp [by1]⟩
    · rw [if_neg h0] at he; exact absurd he h0
  compl x r _ := by unfold tkB; rw [if_pos rfl]; simp [by1]
  suff s := by
    unfold tkB
    split
    · exact ⟨_, rfl⟩
    · exact ⟨0, rfl⟩
  range s hs := by
    unfold tkB
    split
    · cases s.1 with
      | nil => exact .inr ⟨by simp [by1], by simp [by1]⟩
      | cons c r => exact .inl (by simp [by1])
    · exact hs
  fit _ _ := trivial

theorem rd_range (l : List Nat) : ∀ i n, InR (rd l i n).2.1 := by
  induction l with
  | nil => intro i n; exact .inr ⟨by simp [rd], by simp [rd]⟩
  | cons c cs ih =>
    intro i n
    unfold rd
    split
    · exact .inr ⟨by simp, by simp⟩
    · split
      · split
        · exact .inr ⟨by simp, by simp⟩
        · exact .inl rfl
      · exact ih _ _

theorem ct_range (l : List Nat) (most : Int) : InR (ct l most).2.1 := by
  unfold ct
  split
  · exact rd_range l 0 0
  · split
    · exact .inr ⟨by simp, by simp⟩
    · exact rd_range l 0 0

theorem goodN (most : Nat) (hm : most < 2 ^ 64) : Good (tkN (most : Int)) enc (fun n => n ≤ most) (fun n => n ≤ most) where
  stuck s hs := by unfold tkN; rw [if_neg hs]
  sound s hs he := by
    obtain ⟨l, e⟩ := s
    unfold tkN at he ⊢
    by_cases h0 : e = 0
    · subst h0
      rw [if_pos rfl] at he ⊢
      exact ⟨rfl, (ct_inv l most hs he).1⟩
    · rw [if_neg h0] at he; exact absurd he h0
  compl n r hn := by
    unfold tkN
    rw [if_pos rfl]
    simp only []
    rw [ct_fits n r most (by omega) (by omega)]
    simp
  suff s := by
    unfold tkN
    split
    · exact ⟨_, rfl⟩
    · exact ⟨0, rfl⟩
  range s hs := by
    unfold tkN
    split
    · exact ct_range _ _
    · exact hs
  fit s _ := tkN_le most s

theorem tx_len (l : List Nat) (most : Nat) (hl : ∀ c ∈ l, c < 256) : (tx l (most : Int)).1.length ≤ most := by
  by_cases h : (tx l (most : Int)).2.1 = 0
  · have := (tx_inv l most hl h).2.1
    omega
  · unfold tx at h ⊢
    split at h
    · rename_i hx; rw [if_pos hx]; simp
    · rename_i hx
      rw [if_neg hx]
      split at h
      · rename_i hy; rw [if_pos hy]; simp
      · simp at h

theorem enTx_of (m : List Nat) (h : ∀ c ∈ m, c < 256) : enTx (bstr m) = enc m.length ++ m := by unfold enTx; rw [bstr_size, nl_bstr m h]

theorem goodT (most : Nat) (hm : most < 2 ^ 63) : Good (tkT (most : Int)) enTx (fun s => s.size ≤ most) (fun s => s.size ≤ most) where
  stuck s hs := by unfold tkT; rw [if_neg hs]
  sound s hs he := by
    obtain ⟨l, e⟩ := s
    unfold tkT at he ⊢
    by_cases h0 : e = 0
    · subst h0
      rw [if_pos rfl] at he ⊢
      obtain ⟨a1, a2, a3⟩ := tx_inv l most hs he
      exact ⟨rfl, by simp only []; rw [enTx_of _ a3]; exact a1⟩
    · rw [if_neg h0] at he; exact absurd he h0
  compl x r hx := by
    unfold tkT enTx
    rw [if_pos rfl]
    simp only []
    have e : (enc x.size ++ nl x) ++ r = enc (nl x).length ++ (nl x ++ r) := by rw [nl_length, List.append_assoc]
    rw [e, tx_fits (nl x) r most (by rw [nl_length]; omega) (by rw [nl_length]; omega)]
    simp only [bstr_nl]
    refine Prod.ext rfl (Prod.ext ?_ rfl)
    simp only []
    rw [← List.append_assoc, List.drop_left' (by rw [List.length_append])]
  suff s := by
    unfold tkT
    split
    · exact ⟨_, rfl⟩
    · exact ⟨0, rfl⟩
  range s hs := by
    unfold tkT
    split
    · simp only []
      unfold tx
      split
      · exact ct_range _ _
      · split
        · exact .inr ⟨by simp, by simp⟩
        · exact .inl rfl
    · exact hs
  fit s hs := by
    unfold tkT
    split
    · simp only []
      rw [bstr_size]
      exact tx_len s.1 most hs
    · simp [e0_size]

theorem goodI : Good tkI (fun n => enc (fo n)) (fun n => -9223372036854775808 ≤ n ∧ n ≤ 9223372036854775807) (fun n => -9223372036854775808 ≤ n ∧ n ≤ 9223372036854775807) where
  stuck s hs := by unfold tkI; rw [if_neg hs]
  sound s hs he := by
    obtain ⟨l, e⟩ := s
    unfold tkI at he ⊢
    by_cases h0 : e = 0
    · subst h0
      rw [if_pos rfl] at he ⊢
      refine ⟨rfl, ?_⟩
      simp only []
      rw [fo_unf]
      exact (rd_enc_inv l hs he).1
    · rw [if_neg h0] at he; exact absurd he h0
  compl n r hn := by
    unfold tkI
    rw [if_pos rfl]
    simp only []
    rw [rd_enc _ r (fo_lt n hn.1 hn.2)]
    simp [unf_fo]
  suff s := by
    unfold tkI
    split
    · exact ⟨_, rfl⟩
    · exact ⟨0, rfl⟩
  range s hs := by
    unfold tkI
    split
    · exact rd_range _ 0 0
    · exact hs
  fit s hs := by
    unfold tkI
    split
    · exact unf_range _ (rd_lt s.1 0 0 hs (by omega) (by omega))
    · simp

theorem goodC : Good tkC (fun x => le x.1 8 ++ le x.2 8) (fun x => x.1 < 2 ^ 64 ∧ x.2 < 2 ^ 64) (fun x => x.1 < 2 ^ 64 ∧ x.2 < 2 ^ 64) where
  stuck s hs := by unfold tkC; rw [if_neg hs]
  sound s hs he := by
    obtain ⟨l, e⟩ := s
    unfold tkC at he ⊢
    by_cases h0 : e = 0
    · subst h0
      rw [if_pos rfl] at he ⊢
      exact ⟨rfl, (cxd_inv l hs he).1⟩
    · rw [if_neg h0] at he; exact absurd he h0
  compl x r hx := by
    unfold tkC
    rw [if_pos rfl]
    simp only []
    rw [cxd_le x.1 x.2 r hx.1 hx.2]
    refine Prod.ext rfl (Prod.ext ?_ rfl)
    simp only []
    exact List.drop_left' (by rw [List.length_append, le_length, le_length])
  suff s := by
    unfold tkC
    split
    · exact ⟨_, rfl⟩
    · exact ⟨0, rfl⟩
  range s hs := by
    unfold tkC
    split
    · simp only []
      unfold cxd
      split
      · exact .inr ⟨by simp, by simp⟩
      · exact .inl rfl
    · exact hs
  fit s hs := by
    unfold tkC
    split
    · by_cases h : (cxd s.1).2.2.1 = 0
      · exact (cxd_inv s.1 hs h).2
      · unfold cxd at h ⊢
        split at h
        · rename_i hx; rw [if_pos hx]; simp
        · simp at h
    · simp

theorem thn_range {a b : Nat} (ha : InR a) (hb : InR b) : InR (thn a b) := by unfold thn; split; exact hb; exact ha
theorem thn_ne {a : Nat} (h : a ≠ 0) (b : Nat) : thn a b = a := by unfold thn; rw [if_neg h]
theorem r31 : InR 31 := .inr ⟨by omega, by omega⟩

theorem goodF : Good tkF (fun b => [if b = true then 1 else 0]) (fun _ => True) (fun _ => True) where
  stuck s hs := by
    unfold tkF
    rw [show tkB s = (0, s) by unfold tkB; rw [if_neg hs]]
    rfl
  sound s hs he := by
    unfold tkF at he ⊢
    simp only [] at he ⊢
    by_cases hc : 1 < (tkB s).1
    · rw [if_pos hc] at he
      by_cases h0 : (tkB s).2.2 = 0
      · rw [h0] at he; simp [thn] at he
      · rw [thn_ne h0] at he; exact absurd he h0
    · rw [if_neg hc] at he
      obtain ⟨a1, a2⟩ := goodB.sound s hs he
      refine ⟨a1, ?_⟩
      rw [a2]
      rcases (show (tkB s).1 = 0 ∨ (tkB s).1 = 1 by omega) with e | e <;> simp [e]
  compl b r _ := by
    unfold tkF
    rw [goodB.compl _ r trivial]
    cases b <;> rfl
  suff s := goodB.suff s
  range s hs := by
    unfold tkF
    simp only []
    split
    · exact thn_range (goodB.range s hs) r31
    · exact goodB.range s hs
  fit _ _ := trivial
end Go.Proofs.YthncdbobjeeeaaaGreatDoor
