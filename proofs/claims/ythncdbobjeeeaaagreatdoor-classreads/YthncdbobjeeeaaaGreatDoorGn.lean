/- Readers that take each thing in one form alone, and take all that was written: without memory. -/
import Derived.Test.YthncdbobjeeeaaaGreatDoorGg
import Derived.Test.YthncdbobjeeeaaaGreatDoorGm
import Derived.Deep.RegionHeld3
namespace Go.Proofs.YthncdbobjeeeaaaGreatDoor

/-- What is left, and the error. -/
abbrev St := List Nat × Nat
def By (s : St) : Prop := ∀ c ∈ s.1, c < 256
def InR (e : Nat) : Prop := e = 0 ∨ 30 ≤ e ∧ e ≤ 54

/-- Code, read. -/
def rCode (s : List Nat × Nat) : List (Int × Int) × (List Nat × Nat) :=
  if (tkT 20000 s).2.2 = 0 then ((gt (nl (tkT 20000 s).1)).1, ((tkT 20000 s).2.1, (gt (nl (tkT 20000 s).1)).2)) else ([], (tkT 20000 s).2)

/-- One byte that must be that one. -/
def mk1 (c : Nat) (s : List Nat × Nat) : List Nat × Nat := if (tkB s).1 = c then (tkB s).2 else ((tkB s).2.1, thn (tkB s).2.2 31)
/-- The mark. -/
def rMark (s : List Nat × Nat) : List Nat × Nat := mk1 1 (mk1 77 (mk1 79 (mk1 79 (mk1 76 s))))

def mkAt (s : List Nat × Nat) : Nat → List Nat × Nat
  | 0 => s
  | 1 => mk1 76 s
  | 2 => mk1 79 (mk1 76 s)
  | 3 => mk1 79 (mk1 79 (mk1 76 s))
  | _ => mk1 77 (mk1 79 (mk1 79 (mk1 76 s)))

/-- So many more read, behind these. -/
def rLoop {α : Type} (f : St → α × St) : Nat → List α → St → List α × St
  | 0, acc, s => (acc, s)
  | n + 1, acc, s => if s.2 ≠ 0 then (acc, s) else rLoop f n (acc ++ [(f s).1]) (f s).2
/-- A list, read. -/
def rL {α : Type} (most : Nat) (f : St → α × St) (s : St) : List α × St := rLoop f (tkN (most : Int) s).1 [] (tkN (most : Int) s).2

structure Good {α : Type} (f : St → α × St) (en : α → List Nat) (V F : α → Prop) : Prop where
  stuck : ∀ s : St, s.2 ≠ 0 → (f s).2 = s
  sound : ∀ s : St, By s → (f s).2.2 = 0 → s.2 = 0 ∧ s.1 = en (f s).1 ++ (f s).2.1
  compl : ∀ x r, V x → f (en x ++ r, 0) = (x, (r, 0))
  suff : ∀ s : St, ∃ k, (f s).2.1 = s.1.drop k
  range : ∀ s : St, InR s.2 → InR (f s).2.2
  fit : ∀ s : St, By s → F (f s).1

theorem Good.by_ {α : Type} {f : St → α × St} {en : α → List Nat} {V F : α → Prop} (h : Good f en V F) {s : St} (hs : By s) : By (f s).2 := by
  obtain ⟨k, e⟩ := h.suff s
  intro c hc
  rw [e] at hc
  exact hs c (List.mem_of_mem_drop hc)

/-- One behind the other. -/
def pr {α β : Type} (f : St → α × St) (g : St → β × St) (s : St) : (α × β) × St := (((f s).1, (g (f s).2).1), (g (f s).2).2)

theorem Good.pair {α β : Type} {f : St → α × St} {g : St → β × St} {en : α → List Nat} {en' : β → List Nat} {V F : α → Prop} {V' F' : β → Prop} (h : Good f en V F) (h' : Good g en' V' F') :
    Good (pr f g) (fun x => en x.1 ++ en' x.2) (fun x => V x.1 ∧ V' x.2) (fun x => F x.1 ∧ F' x.2) where
  stuck s hs := by
    unfold pr
    simp only []
    rw [h.stuck s hs]
    exact h'.stuck s hs
  sound s hs he := by
    unfold pr at he ⊢
    simp only [] at he ⊢
    obtain ⟨a1, a2⟩ := h'.sound _ (h.by_ hs) he
    obtain ⟨b1, b2⟩ := h.sound s hs a1
    exact ⟨b1, by rw [List.append_assoc, ← a2]; exact b2⟩
  compl x r hx := by
    unfold pr
    simp only [List.append_assoc]
    rw [h.compl x.1 _ hx.1]
    simp only []
    rw [h'.compl x.2 r hx.2]
  suff s := by
    obtain ⟨k, e⟩ := h.suff s
    obtain ⟨j, e'⟩ := h'.suff (f s).2
    exact ⟨k + j, by unfold pr; simp only []; rw [e', e, List.drop_drop]⟩
  range s hs := h'.range _ (h.range s hs)
  fit s hs := ⟨h.fit s hs, h'.fit _ (h.by_ hs)⟩

theorem Good.map {α β : Type} {f : St → α × St} {en : α → List Nat} {V F : α → Prop} (h : Good f en V F) (to : α → β) (fr : β → α) (e : ∀ a, fr (to a) = a) (g : St → β × St) (hg : ∀ s, g s = (to (f s).1, (f s).2)) (en' : β → List Nat) (hen : ∀ b, en' b = en (fr b)) :
    Good g en' (fun b => V (fr b) ∧ to (fr b) = b) (fun b => F (fr b)) where
  stuck s hs := by rw [hg]; exact h.stuck s hs
  sound s hs he := by
    rw [hg] at he ⊢
    simp only [] at he ⊢
    rw [hen, e]
    exact h.sound s hs he
  compl x r hx := by
    rw [hg, hen, h.compl _ r hx.1]
    simp only []
    rw [hx.2]
  suff s := by rw [hg]; exact h.suff s
  range s hs := by rw [hg]; exact h.range s hs
  fit s hs := by rw [hg]; simp only []; rw [e]; exact h.fit s hs

theorem Good.weaken {α : Type} {f : St → α × St} {en : α → List Nat} {V F V' F' : α → Prop} (h : Good f en V F) (hv : ∀ x, V' x → V x) (hf : ∀ x, F x → F' x) : Good f en V' F' :=
  ⟨h.stuck, h.sound, fun x r hx => h.compl x r (hv x hx), h.suff, h.range, fun s hs => hf _ (h.fit s hs)⟩

theorem goodB : Good tkB (fun c => [c]) (fun _ => True) (fun _ => True) where
  stuck s hs := by unfold tkB; rw [if_neg hs]
  sound s hs he := by
    obtain ⟨l, e⟩ := s
    unfold tkB at he ⊢
    by_cases h0 : e = 0
    · subst h0
      rw [if_pos rfl] at he ⊢
      cases l with
      | nil => simp [by1] at he
      | cons c r => exact ⟨rfl, by simp [by1]⟩
    · rw [if_neg h0] at he; exact absurd he h0
  compl x r _ := by unfold tkB; rw [if_pos rfl]; simp [by1]
  suff s := by
    unfold tkB
    split
    · exact ⟨_, rfl⟩
    · exact ⟨0, rfl⟩
  range s hs := by
    unfold tkB
    split
    · cases s.1 with
      | nil => exact .inr ⟨by simp [by1], by simp [by1]⟩
      | cons c r => exact .inl (by simp [by1])
    · exact hs
  fit _ _ := trivial

theorem rd_range (l : List Nat) : ∀ i n, InR (rd l i n).2.1 := by
  induction l with
  | nil => intro i n; exact .inr ⟨by simp [rd], by simp [rd]⟩
  | cons c cs ih =>
    intro i n
    unfold rd
    split
    · exact .inr ⟨by simp, by simp⟩
    · split
      · split
        · exact .inr ⟨by simp, by simp⟩
        · exact .inl rfl
      · exact ih _ _

theorem ct_range (l : List Nat) (most : Int) : InR (ct l most).2.1 := by
  unfold ct
  split
  · exact rd_range l 0 0
  · split
    · exact .inr ⟨by simp, by simp⟩
    · exact rd_range l 0 0

theorem goodN (most : Nat) (hm : most < 2 ^ 64) : Good (tkN (most : Int)) enc (fun n => n ≤ most) (fun n => n ≤ most) where
  stuck s hs := by unfold tkN; rw [if_neg hs]
  sound s hs he := by
    obtain ⟨l, e⟩ := s
    unfold tkN at he ⊢
    by_cases h0 : e = 0
    · subst h0
      rw [if_pos rfl] at he ⊢
      exact ⟨rfl, (ct_inv l most hs he).1⟩
    · rw [if_neg h0] at he; exact absurd he h0
  compl n r hn := by
    unfold tkN
    rw [if_pos rfl]
    simp only []
    rw [ct_fits n r most (by omega) (by omega)]
    simp
  suff s := by
    unfold tkN
    split
    · exact ⟨_, rfl⟩
    · exact ⟨0, rfl⟩
  range s hs := by
    unfold tkN
    split
    · exact ct_range _ _
    · exact hs
  fit s _ := tkN_le most s

theorem tx_len (l : List Nat) (most : Nat) (hl : ∀ c ∈ l, c < 256) : (tx l (most : Int)).1.length ≤ most := by
  by_cases h : (tx l (most : Int)).2.1 = 0
  · have := (tx_inv l most hl h).2.1
    omega
  · unfold tx at h ⊢
    split at h
    · rename_i hx; rw [if_pos hx]; simp
    · rename_i hx
      rw [if_neg hx]
      split at h
      · rename_i hy; rw [if_pos hy]; simp
      · simp at h

theorem enTx_of (m : List Nat) (h : ∀ c ∈ m, c < 256) : enTx (bstr m) = enc m.length ++ m := by unfold enTx; rw [bstr_size, nl_bstr m h]

theorem goodT (most : Nat) (hm : most < 2 ^ 63) : Good (tkT (most : Int)) enTx (fun s => s.size ≤ most) (fun s => s.size ≤ most) where
  stuck s hs := by unfold tkT; rw [if_neg hs]
  sound s hs he := by
    obtain ⟨l, e⟩ := s
    unfold tkT at he ⊢
    by_cases h0 : e = 0
    · subst h0
      rw [if_pos rfl] at he ⊢
      obtain ⟨a1, a2, a3⟩ := tx_inv l most hs he
      exact ⟨rfl, by simp only []; rw [enTx_of _ a3]; exact a1⟩
    · rw [if_neg h0] at he; exact absurd he h0
  compl x r hx := by
    unfold tkT enTx
    rw [if_pos rfl]
    simp only []
    have e : (enc x.size ++ nl x) ++ r = enc (nl x).length ++ (nl x ++ r) := by rw [nl_length, List.append_assoc]
    rw [e, tx_fits (nl x) r most (by rw [nl_length]; omega) (by rw [nl_length]; omega)]
    simp only [bstr_nl]
    refine Prod.ext rfl (Prod.ext ?_ rfl)
    simp only []
    rw [← List.append_assoc, List.drop_left' (by rw [List.length_append])]
  suff s := by
    unfold tkT
    split
    · exact ⟨_, rfl⟩
    · exact ⟨0, rfl⟩
  range s hs := by
    unfold tkT
    split
    · simp only []
      unfold tx
      split
      · exact ct_range _ _
      · split
        · exact .inr ⟨by simp, by simp⟩
        · exact .inl rfl
    · exact hs
  fit s hs := by
    unfold tkT
    split
    · simp only []
      rw [bstr_size]
      exact tx_len s.1 most hs
    · simp [e0_size]

theorem goodI : Good tkI (fun n => enc (fo n)) (fun n => -9223372036854775808 ≤ n ∧ n ≤ 9223372036854775807) (fun n => -9223372036854775808 ≤ n ∧ n ≤ 9223372036854775807) where
  stuck s hs := by unfold tkI; rw [if_neg hs]
  sound s hs he := by
    obtain ⟨l, e⟩ := s
    unfold tkI at he ⊢
    by_cases h0 : e = 0
    · subst h0
      rw [if_pos rfl] at he ⊢
      refine ⟨rfl, ?_⟩
      simp only []
      rw [fo_unf]
      exact (rd_enc_inv l hs he).1
    · rw [if_neg h0] at he; exact absurd he h0
  compl n r hn := by
    unfold tkI
    rw [if_pos rfl]
    simp only []
    rw [rd_enc _ r (fo_lt n hn.1 hn.2)]
    simp [unf_fo]
  suff s := by
    unfold tkI
    split
    · exact ⟨_, rfl⟩
    · exact ⟨0, rfl⟩
  range s hs := by
    unfold tkI
    split
    · exact rd_range _ 0 0
    · exact hs
  fit s hs := by
    unfold tkI
    split
    · exact unf_range _ (rd_lt s.1 0 0 hs (by omega) (by omega))
    · simp

theorem goodC : Good tkC (fun x => le x.1 8 ++ le x.2 8) (fun x => x.1 < 2 ^ 64 ∧ x.2 < 2 ^ 64) (fun x => x.1 < 2 ^ 64 ∧ x.2 < 2 ^ 64) where
  stuck s hs := by unfold tkC; rw [if_neg hs]
  sound s hs he := by
    obtain ⟨l, e⟩ := s
    unfold tkC at he ⊢
    by_cases h0 : e = 0
    · subst h0
      rw [if_pos rfl] at he ⊢
      exact ⟨rfl, (cxd_inv l hs he).1⟩
    · rw [if_neg h0] at he; exact absurd he h0
  compl x r hx := by
    unfold tkC
    rw [if_pos rfl]
    simp only []
    rw [cxd_le x.1 x.2 r hx.1 hx.2]
    refine Prod.ext rfl (Prod.ext ?_ rfl)
    simp only []
    exact List.drop_left' (by rw [List.length_append, le_length, le_length])
  suff s := by
    unfold tkC
    split
    · exact ⟨_, rfl⟩
    · exact ⟨0, rfl⟩
  range s hs := by
    unfold tkC
    split
    · simp only []
      unfold cxd
      split
      · exact .inr ⟨by simp, by simp⟩
      · exact .inl rfl
    · exact hs
  fit s hs := by
    unfold tkC
    split
    · by_cases h : (cxd s.1).2.2.1 = 0
      · exact (cxd_inv s.1 hs h).2
      · unfold cxd at h ⊢
        split at h
        · rename_i hx; rw [if_pos hx]; simp
        · simp at h
    · simp

theorem thn_range {a b : Nat} (ha : InR a) (hb : InR b) : InR (thn a b) := by unfold thn; split; exact hb; exact ha
theorem thn_ne {a : Nat} (h : a ≠ 0) (b : Nat) : thn a b = a := by unfold thn; rw [if_neg h]
theorem r31 : InR 31 := .inr ⟨by omega, by omega⟩

theorem goodF : Good tkF (fun b => [if b = true then 1 else 0]) (fun _ => True) (fun _ => True) where
  stuck s hs := by
    unfold tkF
    rw [show tkB s = (0, s) by unfold tkB; rw [if_neg hs]]
    rfl
  sound s hs he := by
    unfold tkF at he ⊢
    simp only [] at he ⊢
    by_cases hc : 1 < (tkB s).1
    · rw [if_pos hc] at he
      by_cases h0 : (tkB s).2.2 = 0
      · rw [h0] at he; simp [thn] at he
      · rw [thn_ne h0] at he; exact absurd he h0
    · rw [if_neg hc] at he
      obtain ⟨a1, a2⟩ := goodB.sound s hs he
      refine ⟨a1, ?_⟩
      rw [a2]
      rcases (show (tkB s).1 = 0 ∨ (tkB s).1 = 1 by omega) with e | e <;> simp [e]
  compl b r _ := by
    unfold tkF
    rw [goodB.compl _ r trivial]
    cases b <;> rfl
  suff s := goodB.suff s
  range s hs := by
    unfold tkF
    simp only []
    split
    · exact thn_range (goodB.range s hs) r31
    · exact goodB.range s hs
  fit _ _ := trivial
end Go.Proofs.YthncdbobjeeeaaaGreatDoor

/- What is read is what was written, and nothing else is: types, constants, fields, handlers, code, methods, classes: without memory. -/
namespace Go.Proofs.YthncdbobjeeeaaaGreatDoor

theorem tkB_stuck {s : St} (h : s.2 ≠ 0) : tkB s = (0, s) := by unfold tkB; rw [if_neg h]

theorem good20 : Good (tkT 20) enTx (fun s => s.size ≤ 20) (fun s => s.size ≤ 20) := goodT 20 (by omega)

theorem goodTy : Good rTy enTy VTy (fun t => t.c.size ≤ 20) where
  stuck s hs := by unfold rTy; rw [tkB_stuck hs]; rfl
  sound s hs he := by
    unfold rTy at he ⊢
    by_cases h4 : (tkB s).1 = 4
    · rw [if_pos h4] at he ⊢
      obtain ⟨a1, a2⟩ := (goodT 20 (by omega)).sound _ (goodB.by_ hs) he
      obtain ⟨b1, b2⟩ := goodB.sound s hs a1
      refine ⟨b1, ?_⟩
      rw [b2, h4, a2]
      rfl
    · rw [if_neg h4] at he ⊢
      obtain ⟨b1, b2⟩ := goodB.sound s hs he
      refine ⟨b1, ?_⟩
      have e : enTy ⟨((tkB s).1 : Int), e0⟩ = [(tkB s).1] := by unfold enTy; simp only []; rw [if_neg (by omega)]; simp
      simp only []
      rw [e]
      exact b2
  compl t r ht := by
    obtain ⟨k, c⟩ := t
    obtain ⟨h1, h2, h3, h4⟩ := ht
    simp only [] at h1 h2 h3 h4
    obtain ⟨n, rfl⟩ : ∃ n : Nat, k = (n : Int) := ⟨k.toNat, by omega⟩
    have e : enTy ⟨(n : Int), c⟩ ++ r = [n] ++ ((if (n : Int) = 4 then enTx c else []) ++ r) := by unfold enTy; simp
    unfold rTy
    rw [e, goodB.compl n _ trivial]
    simp only []
    by_cases hn : n = 4
    · subst hn
      rw [if_pos rfl, if_pos (by decide), good20.compl c r h3]
      rfl
    · rw [if_neg hn, if_neg (by omega), List.nil_append, h4 (by omega)]
  suff s := by
    obtain ⟨k, e⟩ := goodB.suff s
    unfold rTy
    split
    · obtain ⟨j, e'⟩ := (goodT 20 (by omega)).suff (tkB s).2
      exact ⟨k + j, by simp only []; rw [← List.drop_drop, ← e]; exact e'⟩
    · exact ⟨k, e⟩
  range s hs := by
    unfold rTy
    split
    · exact (goodT 20 (by omega)).range _ (goodB.range s hs)
    · exact goodB.range s hs
  fit s hs := by
    unfold rTy
    split
    · exact (goodT 20 (by omega)).fit _ (goodB.by_ hs)
    · simp [e0_size]

/-- A constant as it is read. -/
structure RCs (x : Cs) : Prop where
  c : x.c.size ≤ 20
  m : x.m.size ≤ 20
  fit : FitCs x

theorem goodCs : Good rCs enCs (fun x => VCs x ∧ FitCs x) RCs where
  stuck s hs := by unfold rCs; rw [tkB_stuck hs]; rfl
  sound s hs he := by
    have hB := goodB.by_ hs
    unfold rCs at he ⊢
    by_cases h1 : (tkB s).1 = 1
    · rw [if_pos h1] at he ⊢
      obtain ⟨a1, a2⟩ := goodI.sound _ hB he
      obtain ⟨b1, b2⟩ := goodB.sound s hs a1
      exact ⟨b1, by rw [b2, h1, a2]; rfl⟩
    rw [if_neg h1] at he ⊢
    by_cases h2 : (tkB s).1 = 2
    · rw [if_pos h2] at he ⊢
      obtain ⟨a1, a2⟩ := goodC.sound _ hB he
      obtain ⟨b1, b2⟩ := goodB.sound s hs a1
      exact ⟨b1, by rw [b2, h2, a2]; rfl⟩
    rw [if_neg h2] at he ⊢
    by_cases h3 : (tkB s).1 = 3
    · rw [if_pos h3] at he ⊢
      obtain ⟨a1, a2⟩ := good20.sound _ hB he
      obtain ⟨b1, b2⟩ := goodB.sound s hs a1
      exact ⟨b1, by rw [b2, h3, a2]; rfl⟩
    rw [if_neg h3] at he ⊢
    by_cases h4 : (tkB s).1 = 4 ∨ (tkB s).1 = 5
    · rw [if_pos h4] at he ⊢
      obtain ⟨c1, c2⟩ := good20.sound _ (good20.by_ hB) he
      obtain ⟨a1, a2⟩ := good20.sound _ hB c1
      obtain ⟨b1, b2⟩ := goodB.sound s hs a1
      refine ⟨b1, ?_⟩
      rw [b2, a2, c2]
      have e : ∀ (n : Nat) (u v : ByteArray), n = 4 ∨ n = 5 → enCs ⟨(n : Int), 0, 0, 0, u, v⟩ = n :: (enTx u ++ enTx v) := by
        intro n u v hn
        unfold enCs
        simp only []
        rw [if_neg (by omega), if_neg (by omega), if_neg (by omega), if_pos (by omega)]
        rfl
      rw [e _ _ _ h4]
      simp
    · rw [if_neg h4] at he ⊢
      obtain ⟨b1, b2⟩ := goodB.sound s hs he
      refine ⟨b1, ?_⟩
      have e : enCs ⟨((tkB s).1 : Int), 0, 0, 0, e0, e0⟩ = [(tkB s).1] := by
        unfold enCs
        simp only []
        rw [if_neg (by omega), if_neg (by omega), if_neg (by omega), if_neg (by omega)]
        rfl
      simp only []
      rw [e]
      exact b2
  compl x r hx := by
    obtain ⟨k, n, re, im, c, m⟩ := x
    obtain ⟨⟨v1, v2, v3, v4, v5, v6, v7, v8⟩, f1, f2, f3, f4⟩ := hx
    simp only [] at *
    obtain ⟨j, rfl⟩ : ∃ j : Nat, k = (j : Int) := ⟨k.toNat, by omega⟩
    have e : enCs ⟨(j : Int), n, re, im, c, m⟩ ++ r = [j] ++ ((if (j : Int) = 1 then enc (fo n) else if (j : Int) = 2 then le re 8 ++ le im 8 else if (j : Int) = 3 then enTx c else if (j : Int) = 4 ∨ (j : Int) = 5 then enTx c ++ enTx m else []) ++ r) := by
      unfold enCs
      simp
    unfold rCs
    rw [e, goodB.compl j _ trivial]
    simp only []
    rcases (show j = 1 ∨ j = 2 ∨ j = 3 ∨ j = 4 ∨ j = 5 by omega) with rfl | rfl | rfl | rfl | rfl
    · rw [if_pos rfl, if_pos (by decide), goodI.compl n r ⟨f1, f2⟩, (v6 (by decide)).1, (v6 (by decide)).2, v7 (by decide), v8 (by decide)]
      rfl
    · rw [if_neg (by decide), if_pos rfl, if_neg (by decide), if_pos (by decide), goodC.compl (re, im) r ⟨f3, f4⟩, v5 (by decide), v7 (by decide), v8 (by decide)]
      rfl
    · rw [if_neg (by decide), if_neg (by decide), if_pos rfl, if_neg (by decide), if_neg (by decide), if_pos (by decide), good20.compl c r v3, v5 (by decide), (v6 (by decide)).1, (v6 (by decide)).2, v8 (by decide)]
      rfl
    · rw [if_neg (by decide), if_neg (by decide), if_neg (by decide), if_pos (by decide), if_neg (by decide), if_neg (by decide), if_neg (by decide), if_pos (by decide), List.append_assoc, good20.compl c _ v3]
      simp only []
      rw [good20.compl m r v4, v5 (by decide), (v6 (by decide)).1, (v6 (by decide)).2]
    · rw [if_neg (by decide), if_neg (by decide), if_neg (by decide), if_pos (by decide), if_neg (by decide), if_neg (by decide), if_neg (by decide), if_pos (by decide), List.append_assoc, good20.compl c _ v3]
      simp only []
      rw [good20.compl m r v4, v5 (by decide), (v6 (by decide)).1, (v6 (by decide)).2]
  suff s := by
    obtain ⟨k, e⟩ := goodB.suff s
    unfold rCs
    split
    · obtain ⟨j, e'⟩ := goodI.suff (tkB s).2
      exact ⟨k + j, by simp only []; rw [← List.drop_drop, ← e]; exact e'⟩
    split
    · obtain ⟨j, e'⟩ := goodC.suff (tkB s).2
      exact ⟨k + j, by simp only []; rw [← List.drop_drop, ← e]; exact e'⟩
    split
    · obtain ⟨j, e'⟩ := good20.suff (tkB s).2
      exact ⟨k + j, by simp only []; rw [← List.drop_drop, ← e]; exact e'⟩
    split
    · obtain ⟨j, e'⟩ := good20.suff (tkB s).2
      obtain ⟨i, e''⟩ := good20.suff (tkT 20 (tkB s).2).2
      exact ⟨k + j + i, by simp only []; rw [← List.drop_drop, ← List.drop_drop, ← e, ← e']; exact e''⟩
    · exact ⟨k, e⟩
  range s hs := by
    have hB := goodB.range s hs
    unfold rCs
    split
    · exact goodI.range _ hB
    split
    · exact goodC.range _ hB
    split
    · exact good20.range _ hB
    split
    · exact good20.range _ (good20.range _ hB)
    · exact hB
  fit s hs := by
    have hB := goodB.by_ hs
    unfold rCs
    split
    · have := goodI.fit _ hB
      exact ⟨by simp [e0_size], by simp [e0_size], this.1, this.2, by simp, by simp⟩
    split
    · have := goodC.fit _ hB
      exact ⟨by simp [e0_size], by simp [e0_size], by simp, by simp, this.1, this.2⟩
    split
    · have := good20.fit _ hB
      exact ⟨this, by simp [e0_size], by simp, by simp, by simp, by simp⟩
    split
    · exact ⟨good20.fit _ hB, good20.fit _ (good20.by_ hB), by simp, by simp, by simp, by simp⟩
    · exact ⟨by simp [e0_size], by simp [e0_size], by simp, by simp, by simp, by simp⟩

theorem goodFd : Good rFd enFd VFd (fun x => x.name.size ≤ 20 ∧ x.ty.c.size ≤ 20) :=
  ((good20.pair (goodTy.pair goodF)).map (fun x => (⟨x.1, x.2.1, x.2.2⟩ : Fd)) (fun x => (x.name, (x.ty, x.vol))) (fun _ => rfl) rFd (fun _ => rfl) enFd (fun x => by unfold enFd; rfl)).weaken
    (fun x hx => ⟨⟨hx.name, hx.ty, trivial⟩, rfl⟩) (fun x hx => ⟨hx.1, hx.2.1⟩)

theorem goodHd : Good rHd enHd VHd (fun _ => True) :=
  (((goodN 200 (by omega)).pair ((goodN 200 (by omega)).pair ((goodN 200 (by omega)).pair ((goodN 128 (by omega)).pair (goodN 6 (by omega)))))).map
    (fun x => (⟨(x.1 : Int), (x.2.1 : Int), (x.2.2.1 : Int), (x.2.2.2.1 : Int) - 1, (x.2.2.2.2 : Int)⟩ : Hd)) (fun h => (h.fr.toNat, (h.to.toNat, (h.tg.toNat, ((h.cl + 1).toNat, h.dp.toNat))))) (fun x => by
      obtain ⟨a, b, c, d, e⟩ := x
      simp) rHd (fun _ => rfl) enHd (fun x => by unfold enHd; rfl)).weaken
    (fun x hx => by
      obtain ⟨fr, to, tg, cl, dp⟩ := x
      obtain ⟨h1, h2, h3, h4, h5⟩ := hx
      simp only [] at h1 h2 h3 h4 h5
      refine ⟨⟨by simp only []; omega, by simp only []; omega, by simp only []; omega, by simp only []; omega, by simp only []; omega⟩, ?_⟩
      simp only [Hd.mk.injEq]
      refine ⟨by omega, by omega, by omega, by omega, by omega⟩) (fun _ _ => trivial)

theorem rone_range (r : List Nat) : InR (rone r).2.1 := by
  cases r with
  | nil => exact .inr ⟨by simp [rone], by simp [rone]⟩
  | cons c r =>
    rw [rone_cons]
    split
    · exact .inr ⟨by simp, by simp⟩
    · split
      · exact .inl rfl
      · split
        · exact rd_range r 0 0
        · split
          · exact .inr ⟨by simp, by simp⟩
          · exact .inl rfl

theorem fin_range (n : Nat) : ∀ acc r, InR (fin acc n r).2 := by
  induction n with
  | zero =>
    intro acc r
    unfold fin
    split
    · exact .inl rfl
    · exact r31
  | succ n ih =>
    intro acc r
    unfold fin
    split
    · exact rone_range r
    · exact ih _ _

theorem gt_range (b : List Nat) : InR (gt b).2 := by
  unfold gt
  split
  · exact ct_range b 200
  · exact fin_range _ _ _

def enCode (l : List (Int × Int)) : List Nat := enc (ptB l).length ++ ptB l

theorem goodCode : Good rCode enCode (fun l => l.length ≤ 200 ∧ allIs l = true) (fun _ => True) where
  stuck s hs := by
    unfold rCode
    have e := (goodT 20000 (by omega)).stuck s hs
    have e : (tkT 20000 s).2 = s := e
    rw [e, if_neg hs]
  sound s hs he := by
    have G := goodT 20000 (by omega)
    unfold rCode at he ⊢
    by_cases h0 : (tkT 20000 s).2.2 = 0
    · rw [if_pos h0] at he ⊢
      obtain ⟨a1, a2⟩ := G.sound s hs h0
      have a2 : s.1 = enTx (tkT 20000 s).1 ++ (tkT 20000 s).2.1 := a2
      obtain ⟨g1, g2, g3⟩ := gt_inv (nl (tkT 20000 s).1) (nl_lt _) he
      refine ⟨a1, ?_⟩
      simp only []
      unfold enCode
      rw [← g1, nl_length]
      exact a2
    · rw [if_neg h0] at he; exact absurd he h0
  compl l r hl := by
    unfold rCode
    have e : ptB l = enc l.length ++ wri l := by unfold ptB; rw [if_pos ⟨hl.1, hl.2⟩]
    have hb : ∀ c ∈ ptB l, c < 256 := by rw [e]; exact put_byte l hl.2
    have hsz : (bstr (ptB l)).size ≤ 20000 := by rw [bstr_size]; have := ptB_len l hl.1; omega
    have e2 : enCode l = enTx (bstr (ptB l)) := by rw [enTx_of _ hb]; rfl
    have C : tkT 20000 (enTx (bstr (ptB l)) ++ r, 0) = (bstr (ptB l), (r, 0)) := (goodT 20000 (by omega)).compl _ r hsz
    rw [e2, C]
    simp only []
    rw [if_pos trivial, nl_bstr _ hb, gt_ptB l hl.1 hl.2]
  suff s := by
    obtain ⟨k, e⟩ := (goodT 20000 (by omega)).suff s
    unfold rCode
    split
    · exact ⟨k, e⟩
    · exact ⟨k, e⟩
  range s hs := by
    have R := (goodT 20000 (by omega)).range s hs
    unfold rCode
    split
    · exact gt_range _
    · exact R
  fit _ _ := trivial

section
variable {α : Type} {f : St → α × St} {en : α → List Nat} {V F : α → Prop}

theorem loop_sound (h : Good f en V F) (n : Nat) : ∀ (acc : List α) (s : St), By s → (rLoop f n acc s).2.2 = 0 → s.2 = 0 ∧ ∃ M, (rLoop f n acc s).1 = acc ++ M ∧ M.length = n ∧ s.1 = M.flatMap en ++ (rLoop f n acc s).2.1 := by
  induction n with
  | zero => intro acc s _ he; exact ⟨he, [], by simp [rLoop], rfl, by simp [rLoop]⟩
  | succ n ih =>
    intro acc s hs he
    unfold rLoop at he ⊢
    by_cases h0 : s.2 = 0
    · rw [if_neg (by simpa using h0)] at he ⊢
      obtain ⟨a1, M, a2, a3, a4⟩ := ih _ _ (h.by_ hs) he
      obtain ⟨b1, b2⟩ := h.sound s hs a1
      refine ⟨h0, (f s).1 :: M, by rw [a2]; simp, by simp [a3], ?_⟩
      rw [List.flatMap_cons, List.append_assoc, ← a4]
      exact b2
    · rw [if_pos h0] at he; exact absurd he h0

theorem loop_compl (h : Good f en V F) (l : List α) : ∀ (acc : List α) (r : List Nat), (∀ x ∈ l, V x) → rLoop f l.length acc (l.flatMap en ++ r, 0) = (acc ++ l, (r, 0)) := by
  induction l with
  | nil => intro acc r _; simp [rLoop]
  | cons x l ih =>
    intro acc r hv
    rw [List.length_cons, rLoop, if_neg (by simp), List.flatMap_cons, List.append_assoc, h.compl x _ (hv x (by simp))]
    simp only []
    rw [ih _ r (fun y hy => hv y (by simp [hy]))]
    simp

theorem loop_suff (h : Good f en V F) (n : Nat) : ∀ (acc : List α) (s : St), ∃ k, (rLoop f n acc s).2.1 = s.1.drop k := by
  induction n with
  | zero => intro acc s; exact ⟨0, rfl⟩
  | succ n ih =>
    intro acc s
    unfold rLoop
    split
    · exact ⟨0, rfl⟩
    · obtain ⟨k, e⟩ := h.suff s
      obtain ⟨j, e'⟩ := ih (acc ++ [(f s).1]) (f s).2
      exact ⟨k + j, by rw [e', e, List.drop_drop]⟩

theorem loop_range (h : Good f en V F) (n : Nat) : ∀ (acc : List α) (s : St), InR s.2 → InR (rLoop f n acc s).2.2 := by
  induction n with
  | zero => intro acc s hs; exact hs
  | succ n ih =>
    intro acc s hs
    unfold rLoop
    split
    · exact hs
    · exact ih _ _ (h.range s hs)

theorem loop_fit (h : Good f en V F) (n : Nat) : ∀ (acc : List α) (s : St), By s → (∀ x ∈ acc, F x) → ∀ x ∈ (rLoop f n acc s).1, F x := by
  induction n with
  | zero => intro acc s _ ha; exact ha
  | succ n ih =>
    intro acc s hs ha
    unfold rLoop
    split
    · exact ha
    · refine ih _ _ (h.by_ hs) (fun x hx => ?_)
      rcases List.mem_append.1 hx with hx | hx
      · exact ha x hx
      · simp at hx; subst hx; exact h.fit s hs

theorem goodL (h : Good f en V F) (most : Nat) (hm : most < 2 ^ 64) : Good (rL most f) (enL en) (fun l => l.length ≤ most ∧ ∀ x ∈ l, V x) (fun l => ∀ x ∈ l, F x) where
  stuck s hs := by
    unfold rL
    rw [show tkN (most : Int) s = (0, s) by unfold tkN; rw [if_neg hs]]
    rfl
  sound s hs he := by
    have G := goodN most hm
    unfold rL at he ⊢
    obtain ⟨a1, M, a2, a3, a4⟩ := loop_sound h _ _ _ (G.by_ hs) he
    obtain ⟨b1, b2⟩ := G.sound s hs a1
    refine ⟨b1, ?_⟩
    rw [a2, List.nil_append]
    unfold enL
    rw [a3, List.append_assoc, ← a4]
    exact b2
  compl l r hl := by
    unfold rL enL
    rw [List.append_assoc, (goodN most hm).compl _ _ hl.1]
    simp only []
    rw [loop_compl h l [] r hl.2, List.nil_append]
  suff s := by
    obtain ⟨k, e⟩ := (goodN most hm).suff s
    obtain ⟨j, e'⟩ := loop_suff h (tkN (most : Int) s).1 [] (tkN (most : Int) s).2
    exact ⟨k + j, by unfold rL; rw [e', e, List.drop_drop]⟩
  range s hs := loop_range h _ _ _ ((goodN most hm).range s hs)
  fit s hs := loop_fit h _ _ _ ((goodN most hm).by_ hs) (fun x hx => by simp at hx)
end

/-- A method, read. -/
def rMt (s : St) : Mt × St :=
  let x := pr (tkT 20) (pr (rL 6 rTy) (pr rTy (pr (tkN 32) (pr (tkN 64) (pr rCode (rL 16 rHd)))))) s
  (⟨x.1.1, x.1.2.1, x.1.2.2.1, (x.1.2.2.2.1 : Int), (x.1.2.2.2.2.1 : Int), x.1.2.2.2.2.2.1, x.1.2.2.2.2.2.2⟩, x.2)

theorem goodMt : Good rMt enMt VMt FitM :=
  ((good20.pair ((goodL goodTy 6 (by omega)).pair (goodTy.pair ((goodN 32 (by omega)).pair ((goodN 64 (by omega)).pair (goodCode.pair (goodL goodHd 16 (by omega)))))))).map
    (fun x => (⟨x.1, x.2.1, x.2.2.1, (x.2.2.2.1 : Int), (x.2.2.2.2.1 : Int), x.2.2.2.2.2.1, x.2.2.2.2.2.2⟩ : Mt)) (fun m => (m.name, (m.params, (m.ret, (m.lo.toNat, (m.st.toNat, (m.code, m.hands))))))) (fun x => by
      obtain ⟨a, b, c, d, e, f, g⟩ := x
      simp) rMt (fun _ => rfl) enMt (fun m => by unfold enMt enCode; rfl)).weaken
    (fun m hm => by
      obtain ⟨nm, ps, rt, lo, st, cd, hd⟩ := m
      have h1 := hm.lo
      have h2 := hm.st
      simp only [] at h1 h2
      refine ⟨⟨hm.name, ⟨hm.pl, hm.params⟩, hm.ret, by simp only []; omega, by simp only []; omega, ⟨hm.cl, hm.code⟩, ⟨hm.hl, hm.hands⟩⟩, ?_⟩
      simp only [Mt.mk.injEq, true_and, and_true]
      omega)
    (fun m hm => ⟨by have := hm.1; unfold fitS; simp only [] at this; omega, by have := hm.2.2.1; unfold fitS; simp only [] at this; omega, fun t ht => by have := hm.2.1 t ht; unfold fitS; omega⟩)

/-- A class, read behind the mark. -/
def rCl (s : St) : Cl × St :=
  let x := pr (tkT 20) (pr (tkT 20) (pr (rL 128 rCs) (pr (rL 8 rFd) (rL 12 rMt)))) s
  (⟨x.1.1, x.1.2.1, x.1.2.2.1, x.1.2.2.2.1, x.1.2.2.2.2⟩, x.2)

def enBody (c : Cl) : List Nat := enTx c.name ++ (enTx c.super ++ (enL enCs c.pool ++ (enL enFd c.fields ++ enL enMt c.methods)))

theorem goodCl : Good rCl enBody (fun c => VCl c ∧ FitK c) FitK :=
  ((good20.pair (good20.pair ((goodL goodCs 128 (by omega)).pair ((goodL goodFd 8 (by omega)).pair (goodL goodMt 12 (by omega)))))).map
    (fun x => (⟨x.1, x.2.1, x.2.2.1, x.2.2.2.1, x.2.2.2.2⟩ : Cl)) (fun c => (c.name, (c.super, (c.pool, (c.fields, c.methods))))) (fun x => rfl) rCl (fun _ => rfl) enBody (fun m => by unfold enBody; rfl)).weaken
    (fun c hc => ⟨⟨hc.1.name, hc.1.super, ⟨hc.1.pl, fun x hx => ⟨hc.1.pool x hx, hc.2.pool x hx⟩⟩, ⟨hc.1.fl, hc.1.fields⟩, ⟨hc.1.ml, hc.1.methods⟩⟩, rfl⟩)
    (fun c hc => ⟨⟨by have := hc.1; unfold fitS; simp only [] at this; omega, by have := hc.2.1; unfold fitS; simp only [] at this; omega, fun x hx => ⟨by have := (hc.2.2.1 x hx).c; unfold fitS; omega, by have := (hc.2.2.1 x hx).m; unfold fitS; omega⟩,
      fun x hx => ⟨by have := (hc.2.2.2.1 x hx).1; unfold fitS; omega, by have := (hc.2.2.2.1 x hx).2; unfold fitS; omega⟩, hc.2.2.2.2⟩, fun x hx => (hc.2.2.1 x hx).fit⟩)

/-! ### The whole -/
theorem goodM1 (c : Nat) : Good (fun s => ((), mk1 c s)) (fun _ => [c]) (fun _ => True) (fun _ => True) where
  stuck s hs := by
    show mk1 c s = s
    unfold mk1
    rw [tkB_stuck hs]
    simp only []
    split
    · rfl
    · rw [thn_ne hs]
  sound s hs he := by
    have he : (mk1 c s).2 = 0 := he
    show s.2 = 0 ∧ s.1 = [c] ++ (mk1 c s).1
    unfold mk1 at he ⊢
    by_cases h : (tkB s).1 = c
    · rw [if_pos h] at he ⊢
      have := goodB.sound s hs he
      rw [h] at this
      exact this
    · rw [if_neg h] at he
      by_cases h0 : (tkB s).2.2 = 0
      · rw [h0] at he; simp [thn] at he
      · simp only [] at he; rw [thn_ne h0] at he; exact absurd he h0
  compl x r _ := by
    show ((), mk1 c ([c] ++ r, 0)) = _
    unfold mk1
    rw [goodB.compl c r trivial, if_pos rfl]
  suff s := by
    show ∃ k, (mk1 c s).1 = _
    unfold mk1
    split
    · exact goodB.suff s
    · exact goodB.suff s
  range s hs := by
    show InR (mk1 c s).2
    unfold mk1
    split
    · exact goodB.range s hs
    · exact thn_range (goodB.range s hs) r31
  fit _ _ := trivial

/-- What is behind the mark and the class. -/
def rAll (b : List Nat) : Cl × St := let r := rCl (rMark (b, 0)); (r.1, tkEnd r.2)

/-- What Decode tells: the class, the error. -/
def dcE (b : List Nat) : Nat := if 20000 < b.length then 32 else if (rAll b).2.2 = 0 then chk (rAll b).1 else (rAll b).2.2
def zCl : Cl := ⟨e0, e0, [], [], []⟩
def dcC (b : List Nat) : Cl := if dcE b = 0 then (rAll b).1 else zCl

def pMark (s : St) : (Unit × (Unit × (Unit × (Unit × Unit)))) × St := pr (fun s => ((), mk1 76 s)) (pr (fun s => ((), mk1 79 s)) (pr (fun s => ((), mk1 79 s)) (pr (fun s => ((), mk1 77 s)) (fun s => ((), mk1 1 s))))) s
theorem goodMark : Good pMark (fun _ => [76, 79, 79, 77, 1]) (fun _ => True) (fun _ => True) :=
  ((goodM1 76).pair ((goodM1 79).pair ((goodM1 79).pair ((goodM1 77).pair (goodM1 1))))).weaken (fun _ _ => ⟨trivial, trivial, trivial, trivial, trivial⟩) (fun _ _ => trivial)
theorem pMark_eq (s : St) : (pMark s).2 = rMark s := by simp only [pMark, pr, rMark]

theorem dec_sound (b : List Nat) (hb : ∀ c ∈ b, c < 256) (h : dcE b = 0) : enCl (dcC b) = b ∧ chk (dcC b) = 0 ∧ FitK (dcC b) ∧ b.length ≤ 20000 := by
  have e : dcC b = (rAll b).1 := by unfold dcC; rw [if_pos h]
  rw [e]
  unfold dcE at h
  by_cases h1 : 20000 < b.length
  · rw [if_pos h1] at h; simp at h
  rw [if_neg h1] at h
  by_cases h2 : (rAll b).2.2 = 0
  · rw [if_pos h2] at h
    have hB : By (b, 0) := hb
    have hM : By (rMark (b, 0)) := by have := goodMark.by_ hB; rwa [pMark_eq] at this
    unfold rAll at h h2 ⊢
    simp only [] at h h2 ⊢
    have h3 : (rCl (rMark (b, 0))).2.2 = 0 ∧ (rCl (rMark (b, 0))).2.1 = [] := by
      unfold tkEnd at h2
      simp only [] at h2
      by_cases hl : 0 < (rCl (rMark (b, 0))).2.1.length
      · rw [if_pos hl] at h2
        by_cases h0 : (rCl (rMark (b, 0))).2.2 = 0
        · rw [h0] at h2; simp [thn] at h2
        · rw [thn_ne h0] at h2; exact absurd h2 h0
      · rw [if_neg hl] at h2
        exact ⟨h2, List.eq_nil_of_length_eq_zero (by omega)⟩
    obtain ⟨a1, a2⟩ := goodCl.sound _ hM h3.1
    have G := goodMark.sound (b, 0) hB
    rw [pMark_eq] at G
    obtain ⟨_, b2⟩ := G a1
    simp only [] at b2
    refine ⟨?_, h, goodCl.fit _ hM, by omega⟩
    rw [h3.2, List.append_nil] at a2
    generalize rMark (b, 0) = m at a2 b2 ⊢
    generalize (rCl m).1 = c at a2 ⊢
    rw [b2, a2]
    rfl
  · rw [if_neg h2] at h; exact absurd h h2

theorem dec_compl (c : Cl) (hc : chk c = 0) (hf : FitK c) (hl : (enCl c).length ≤ 20000) : dcE (enCl c) = 0 ∧ dcC (enCl c) = c := by
  have hM : rMark (enCl c, 0) = (enBody c, 0) := by
    have := goodMark.compl ((), (), (), (), ()) (enBody c) trivial
    have e : enCl c = [76, 79, 79, 77, 1] ++ enBody c := rfl
    rw [e, ← pMark_eq, this]
  have hR : rCl (enBody c, 0) = (c, ([], 0)) := by
    have := goodCl.compl c [] ⟨vcl c hc, hf⟩
    rwa [List.append_nil] at this
  have hA : rAll (enCl c) = (c, ([], 0)) := by
    unfold rAll
    simp only []
    rw [hM, hR]
    rfl
  have h1 : dcE (enCl c) = 0 := by
    unfold dcE
    rw [if_neg (by omega), hA, if_pos rfl]
    exact hc
  refine ⟨h1, ?_⟩
  unfold dcC
  rw [if_pos h1, hA]

theorem each_range {α : Type} (most : Nat) (ask : α → List α → Nat) (h : ∀ x a, InR (ask x a)) (l : List α) : InR (eachE most ask l) := by
  have key : ∀ (l a : List α), InR (firstE ask a l) := by
    intro l
    induction l with
    | nil => intro a; exact .inl rfl
    | cons x r ih =>
      intro a
      unfold firstE
      split
      · exact h x a
      · exact ih _
  unfold eachE
  split
  · exact .inr ⟨by omega, by omega⟩
  · exact key l []

theorem ir (n : Nat) (h : n = 0 ∨ (30 ≤ n ∧ n ≤ 54)) : InR n := h

theorem chk_range (c : Cl) : InR (chk c) := by
  have cs : ∀ x, InR (ckCs x) := by intro x; unfold ckCs; repeat (first | (split; skip) | (exact ir _ (by omega)))
  have fd : ∀ x a, InR (ckFd x a) := by intro x a; unfold ckFd; repeat (first | (split; skip) | (exact ir _ (by omega)))
  have ty : ∀ x a, InR (ckTy x a) := by intro x a; unfold ckTy; repeat (first | (split; skip) | (exact ir _ (by omega)))
  have ins : ∀ p lo n x, InR (ckIns p lo n x) := by intro p lo n x; unfold ckIns; repeat (first | (split; skip) | (exact ir _ (by omega)))
  have hd : ∀ p n x, InR (ckHd p n x) := by intro p n x; unfold ckHd; repeat (first | (split; skip) | (exact ir _ (by omega)))
  have face : ∀ m a, InR (ckFace m a) := by
    intro m a
    have := each_range 6 ckTy ty m.params
    unfold ckFace
    repeat (first | exact this | (split; skip) | (exact ir _ (by omega)))
  have body : ∀ p m, InR (ckBody p m) := by
    intro p m
    have e1 := each_range 200 (fun x _ => ckIns p m.lo m.code.length x) (fun x _ => ins _ _ _ x) m.code
    have e2 := each_range 16 (fun h _ => ckHd p m.code.length h) (fun x _ => hd _ _ x) m.hands
    unfold ckBody
    repeat (first | exact e1 | exact e2 | (split; skip) | (exact ir _ (by omega)))
  have mt : ∀ p m a, InR (ckMt p m a) := by intro p m a; unfold ckMt; split; exact face m a; exact body p m
  have e1 := each_range 128 (fun x _ => ckCs x) (fun x _ => cs x) c.pool
  have e2 := each_range 8 ckFd fd c.fields
  have e3 := each_range 12 (ckMt c.pool) (mt c.pool) c.methods
  unfold chk
  repeat (first | exact e1 | exact e2 | exact e3 | (split; skip) | (exact ir _ (by omega)))

theorem dec_range (b : List Nat) : InR (dcE b) := by
  unfold dcE
  split
  · exact ir _ (by omega)
  · split
    · exact chk_range _
    · unfold rAll
      simp only []
      have h1 : InR (rMark (b, 0)).2 := by
        have := goodMark.range (b, 0) (.inl rfl)
        rwa [pMark_eq] at this
      have h2 := goodCl.range _ h1
      unfold tkEnd
      simp only []
      split
      · exact thn_range h2 r31
      · exact h2
end Go.Proofs.YthncdbobjeeeaaaGreatDoor

/- The class reader: code, the mark. -/
namespace Go.Proofs.YthncdbobjeeeaaaGreatDoor
open Go.ChangeShapes Go.WideShapes Go.ChangeAt Go.RowKit

theorem Fr.allocF {S : Nat → Prop} {a w : World} (h : Fr S a w) (c : Array Value) (t : TypeId) (fz : Nat × Nat) : Fr S a (w.alloc (.cells c t fz)) :=
  ⟨h.os, h.output, Nat.le_trans h.size (by show w.heap.size ≤ (w.heap.push _).size; simp), fun k hk hs => (Below.heap_alloc w _ k (Nat.lt_of_lt_of_le hk h.size)).trans (h.block k hk hs),
    fun x hx => by
      have e : (w.alloc (.cells c t fz)).heap[x.block]? = w.heap[x.block]? := Below.heap_alloc w _ x.block (Nat.lt_of_lt_of_le hx h.size)
      have : (w.alloc (.cells c t fz)).frozen? x = w.frozen? x := by unfold World.frozen?; rw [e]
      rw [this]
      exact h.frozen x hx⟩

theorem bytes_of (w : World) (s : ByteArray) (hs : s.size ≤ 1099511627776) : ∃ a n c W, (convert 9 22 (.string s)).run Tryz.prog w = .ok (.slice a n c) W ∧ Sl W (.slice a n c) (nl s) ∧ Fr no w W := by
  refine ⟨_, _, _, _, run_bytes_of_string w 9 22 5 s Tryz.underlying9 Tryz.underlying22 Tryz.underlying5, ?_, (Fr.refl no w).drew.allocF _ _ _⟩
  have hge := grownCap_ge w s.size 0 5
  have hcm : grownCap w s.size 0 5 ≤ maxLen := grownCap_le_maxLen w _ 0 5 (by unfold maxLen; omega)
  refine .inl ⟨w.heap.size, 0, grownCap w s.size 0 5, by rw [nl_length], by rw [nl_length]; exact hge, hcm, fun i c hi => ?_⟩
  have hlt : i < s.size := by
    rcases Nat.lt_or_ge i s.size with h | h
    · exact h
    · rw [List.getElem?_eq_none (by rw [nl_length]; exact h)] at hi; simp at hi
  rw [nl_get s i hlt] at hi
  simp only [Option.some.injEq] at hi
  subst hi
  have hb : ∀ fz, (w.drew.alloc (.cells (bytesRow s (grownCap w s.size 0 5)) 5 fz)).heap[w.heap.size]? = some (.cells (bytesRow s (grownCap w s.size 0 5)) 5 fz) := fun fz => heap_alloc_new w.drew _
  unfold World.cell?
  simp only [hb, Nat.zero_add]
  unfold bytesRow
  have hlt' : i < s.data.size := hlt
  rw [Array.getElem?_append_left (by rw [Array.size_map]; exact hlt'), Array.getElem?_map, Array.getElem?_eq_getElem hlt']
  rfl

/-- A row of the call's own stays beside the class reader. -/
theorem OwnG.beside {α : Type} {K : El α} {w w' : World} {p q : Nat} {s : List Nat × Nat} {v : Value} {l : List α} (h : OwnG K w v l) (hr : RT w p q s) (h1 : K.e ≠ 74) (h2 : K.e ≠ 176) (hf : Fr (PQ p q) w w') : OwnG K w' v l := by
  refine h.kept hf (fun k hk e => ?_)
  obtain ⟨cur, ht⟩ := h.tag hk
  rcases e with rfl | rfl
  · rw [RS.blk hr] at ht
    simp only [Option.some.injEq, Obj.cells.injEq] at ht
    exact h1 ht.2.1.symm
  · obtain ⟨v, hv, _⟩ := RS.rd hr
    rw [hv] at ht
    simp only [Option.some.injEq, Obj.cells.injEq] at ht
    exact h2 ht.2.1.symm

theorem OwnI.beside {w w' : World} {p q : Nat} {s : List Nat × Nat} {v : Value} {l : List (Int × Int)} (h : OwnI w v l) (hr : RT w p q s) (hf : Fr (PQ p q) w w') : OwnI w' v l := by
  refine h.kept hf (fun k hk e => ?_)
  obtain ⟨cur, ht⟩ := h.tag hk
  rcases e with rfl | rfl
  · rw [RS.blk hr] at ht
    simp at ht
  · obtain ⟨v, hv, _⟩ := RS.rd hr
    rw [hv] at ht
    simp at ht

theorem RT.not {w : World} {p q : Nat} {s : List Nat × Nat} (h : RT w p q s) {k : Nat} {u : Value} (hc : w.cell? ⟨k, 0, none⟩ = some u) (hu : ∀ a n c, u ≠ .slice a n c) (hu2 : ∀ a, u ≠ .pointer a) : ¬ PQ p q k := by
  rintro (rfl | rfl)
  · rw [(RS.cells h).1] at hc
    simp only [Option.some.injEq] at hc
    exact hu2 _ hc.symm
  · obtain ⟨v, hv, hs⟩ := RS.rd h
    rw [cell_of_one hv] at hc
    simp only [Option.some.injEq] at hc
    obtain ⟨o, c, e, _⟩ := hs.shape
    rw [e] at hc
    exact hu _ _ _ hc.symm

theorem Tb.beside {w w' : World} {p q : Nat} {s : List Nat × Nat} (T : Tb w) (h : RT w p q s) (f : Fr (PQ p q) w w') : Tb w' :=
  ⟨fun n hn => f.cell (T.op n hn) (h.not (T.op 0 (by omega)) (fun _ _ _ e => by cases e) (fun _ e => by cases e))⟩
theorem Tr.beside {w w' : World} {p q : Nat} {s : List Nat × Nat} (T : Tr w) (h : RT w p q s) (f : Fr (PQ p q) w w') : Tr w' :=
  fun n hn => f.cell (T n hn) (h.not (T 0 (by omega)) (fun _ _ _ e => by cases e) (fun _ e => by cases e))

theorem tkT_size (most : Nat) (s : List Nat × Nat) (hs : s.1.length ≤ 1099511627776) : (tkT (most : Int) s).1.size ≤ 1099511627776 := by
  unfold tkT
  split
  · simp only []
    rw [bstr_size]
    unfold tx
    split
    · simp
    · split
      · simp
      · simp only []
        rw [List.length_take, List.length_drop]
        omega
  · rw [e0_size]; omega

set_option maxRecDepth 100000 in
set_option maxHeartbeats 1000000 in
theorem readCode_any (w : World) (T : Tb w) (p q : Nat) (s : List Nat × Nat) (h : RT w p q s) :
    Calls Tryz.prog 71 #[.pointer (some ⟨p, 0, none⟩)] w fun x w' => ∃ v, x = .returned v ∧ OwnI w' v (rCode s).1 ∧ RT w' p q (rCode s).2 ∧ Fr (PQ p q) w w' := by
  have K := rText_any w p q s h 20000 (by omega) (by omega)
  have hsz := tkT_size 20000 s (RS.ln h)
  have HR : Hid (rCode s = if (tkT 20000 s).2.2 = 0 then ((gt (nl (tkT 20000 s).1)).1, ((tkT 20000 s).2.1, (gt (nl (tkT 20000 s).1)).2)) else ([], (tkT 20000 s).2)) := rfl
  have hsz' : (tkT 20000 s).1.size ≤ 1099511627776 := hsz
  clear hsz
  generalize rCode s = r at *
  generalize tkT 20000 s = t at *
  obtain ⟨b, l, e⟩ := t
  simp only [] at *
  by_cases h0 : e = 0
  · subst h0
    rw [if_pos rfl] at HR
    go_enter Tryz.func71, Tryz.ntmps71
    go_wp2_with fail
    refine K.mono ?_
    rintro x w1 ⟨rfl, r1, f1⟩
    obtain ⟨c0, c1, z1⟩ := RS.cells r1
    simp only [] at c0 c1
    obtain ⟨a, n, c, W, hrun, hsl, hfr⟩ := bytes_of w1 b hsz'
    have T1 : Tb w1 := T.beside h f1
    have G := get_any W (T1.kept hfr) _ (nl b) hsl (nl_lt b) (by rw [nl_length]; exact hsz')
    have rW := r1.new hfr
    clear T1 hsl
    go_wp2_with fail
    refine G.mono ?_
    rintro x w2 ⟨v2, rfl, o2, f2⟩
    obtain ⟨a2, c2, e2⟩ := o2.form
    subst e2
    have r2 : RT w2 p q (l, 0) := RS.new rW f2
    go_wp2_with fail
    refine (fail_any w2 p q l 0 r2 (gt (nl b)).2).mono ?_
    rintro x w3 ⟨rfl, r3, f3⟩
    go_wp2_with fail
    go_ret
    rw [HR.out]
    exact ⟨_, rfl, o2.beside r2 f3, r3, ((f1.trans hfr (fun _ _ e => e) (fun _ _ f => f.elim)).trans f2 (fun _ _ e => e) (fun _ _ f => f.elim)).trans f3 (fun _ _ e => e) (fun _ _ e => e)⟩
  · rw [if_neg h0] at HR
    have h0' : ((e : Int) == 0) = false := beq_eq_false_iff_ne.2 (by omega)
    go_enter Tryz.func71, Tryz.ntmps71
    go_wp2_with fail
    refine K.mono ?_
    rintro x w1 ⟨rfl, r1, f1⟩
    obtain ⟨c0, c1, z1⟩ := RS.cells r1
    simp only [] at c0 c1
    go_wp2_with fail
    go_ret
    rw [HR.out]
    exact ⟨_, rfl, OwnI.nil _, r1, f1⟩

set_option maxRecDepth 100000 in
set_option maxHeartbeats 4000000 in
theorem readMark_any (w : World) (p q : Nat) (s : List Nat × Nat) (h : RT w p q s) :
    Calls Tryz.prog 17 #[.pointer (some ⟨p, 0, none⟩)] w fun x w' => x = .returned (.tuple #[]) ∧ RT w' p q (rMark s) ∧ Fr (PQ p q) w w' := by
  go_enter Tryz.func17, Tryz.ntmps17
  go_wp2_with fail
  go_loopw [3] (fun i wr => ∃ (j : Nat), i = .int .i64 (j : Int) ∧ j ≤ 4 ∧ RT wr p q (mkAt s j) ∧ Fr (PQ p q) w wr) (fun i _ => 4 - (intOf i).toNat)
  case atStart => exact ⟨0, rfl, by omega, h, Fr.refl _ _⟩
  case round =>
    obtain ⟨j, rfl, hj, r1, f1⟩ := hrel
    by_cases hj4 : j < 4
    · have hfd : Fr no wr wr.drew := (Fr.refl no wr).drew
      have K := rByte_any wr.drew p q (mkAt s j) (r1.new hfd)
      have HF : Hid (∀ w2, Fr (PQ p q) wr.drew w2 → Fr (PQ p q) w w2) := fun w2 f2 => (f1.trans hfd (fun _ _ e => e) (fun _ _ f => f.elim)).trans f2 (fun _ _ e => e) (fun _ _ e => e)
      clear hfd r1 f1
      rcases (show j = 0 ∨ j = 1 ∨ j = 2 ∨ j = 3 by omega) with rfl | rfl | rfl | rfl
      · have HM : Hid (mkAt s 1 = mk1 76 (mkAt s 0)) := rfl
        have HM1 : Hid (mk1 76 (mkAt s 0) = if (tkB (mkAt s 0)).1 = 76 then (tkB (mkAt s 0)).2 else ((tkB (mkAt s 0)).2.1, thn (tkB (mkAt s 0)).2.2 31)) := rfl
        generalize mk1 76 (mkAt s 0) = m2 at *
        generalize tkB (mkAt s 0) = t at *
        obtain ⟨b, l, e⟩ := t
        simp only [] at K HM1
        by_cases hb : b = 76
        · subst hb
          rw [if_pos rfl] at HM1
          have hcmp : ((76 : Int) != ((({ data := #[76, 79, 79, 77] } : ByteArray)[0].toNat : Nat) : Int)) = false := rfl
          go_wp2_with fail
          go_region_held3 (fun _ => True) (exact trivial) (first | (go_at_call 61; refine K.mono ?_; rintro x w2 ⟨rfl, r2, f2⟩))
          all_goals
            go_wp2_with fail
            go_roundw
            case rel => exact ⟨1, by go_num, by omega, by rw [HM.out, HM1.out]; exact r2, HF.out _ f2⟩
            case measure => simp [intOf]
        · have hcmp : ((b : Int) != ((({ data := #[76, 79, 79, 77] } : ByteArray)[0].toNat : Nat) : Int)) = true := by
            have e : ((({ data := #[76, 79, 79, 77] } : ByteArray)[0].toNat : Nat) : Int) = 76 := rfl
            rw [e]; simp; omega
          rw [if_neg hb] at HM1
          go_wp2_with fail
          go_region_held3 (fun _ => True) (exact trivial) (first | (go_at_call 61; refine K.mono ?_; rintro x w2 ⟨rfl, r2, f2⟩))
          all_goals
            go_wp2_with fail
            refine (fail_any w2 p q l e r2 31).mono ?_
            rintro x w3 ⟨rfl, r3, f3⟩
            go_wp2_with fail
            go_roundw
            case rel => exact ⟨1, by go_num, by omega, by rw [HM.out, HM1.out]; exact r3, (HF.out _ f2).trans f3 (fun _ _ e => e) (fun _ _ e => e)⟩
            case measure => simp [intOf]
      · have HM : Hid (mkAt s 2 = mk1 79 (mkAt s 1)) := rfl
        have HM1 : Hid (mk1 79 (mkAt s 1) = if (tkB (mkAt s 1)).1 = 79 then (tkB (mkAt s 1)).2 else ((tkB (mkAt s 1)).2.1, thn (tkB (mkAt s 1)).2.2 31)) := rfl
        generalize mk1 79 (mkAt s 1) = m2 at *
        generalize tkB (mkAt s 1) = t at *
        obtain ⟨b, l, e⟩ := t
        simp only [] at K HM1
        by_cases hb : b = 79
        · subst hb
          rw [if_pos rfl] at HM1
          have hcmp : ((79 : Int) != ((({ data := #[76, 79, 79, 77] } : ByteArray)[1].toNat : Nat) : Int)) = false := rfl
          go_wp2_with fail
          go_region_held3 (fun _ => True) (exact trivial) (first | (go_at_call 61; refine K.mono ?_; rintro x w2 ⟨rfl, r2, f2⟩))
          all_goals
            go_wp2_with fail
            go_roundw
            case rel => exact ⟨2, by go_num, by omega, by rw [HM.out, HM1.out]; exact r2, HF.out _ f2⟩
            case measure => simp [intOf]
        · have hcmp : ((b : Int) != ((({ data := #[76, 79, 79, 77] } : ByteArray)[1].toNat : Nat) : Int)) = true := by
            have e : ((({ data := #[76, 79, 79, 77] } : ByteArray)[1].toNat : Nat) : Int) = 79 := rfl
            rw [e]; simp; omega
          rw [if_neg hb] at HM1
          go_wp2_with fail
          go_region_held3 (fun _ => True) (exact trivial) (first | (go_at_call 61; refine K.mono ?_; rintro x w2 ⟨rfl, r2, f2⟩))
          all_goals
            go_wp2_with fail
            refine (fail_any w2 p q l e r2 31).mono ?_
            rintro x w3 ⟨rfl, r3, f3⟩
            go_wp2_with fail
            go_roundw
            case rel => exact ⟨2, by go_num, by omega, by rw [HM.out, HM1.out]; exact r3, (HF.out _ f2).trans f3 (fun _ _ e => e) (fun _ _ e => e)⟩
            case measure => simp [intOf]
      · have HM : Hid (mkAt s 3 = mk1 79 (mkAt s 2)) := rfl
        have HM1 : Hid (mk1 79 (mkAt s 2) = if (tkB (mkAt s 2)).1 = 79 then (tkB (mkAt s 2)).2 else ((tkB (mkAt s 2)).2.1, thn (tkB (mkAt s 2)).2.2 31)) := rfl
        generalize mk1 79 (mkAt s 2) = m2 at *
        generalize tkB (mkAt s 2) = t at *
        obtain ⟨b, l, e⟩ := t
        simp only [] at K HM1
        by_cases hb : b = 79
        · subst hb
          rw [if_pos rfl] at HM1
          have hcmp : ((79 : Int) != ((({ data := #[76, 79, 79, 77] } : ByteArray)[2].toNat : Nat) : Int)) = false := rfl
          go_wp2_with fail
          go_region_held3 (fun _ => True) (exact trivial) (first | (go_at_call 61; refine K.mono ?_; rintro x w2 ⟨rfl, r2, f2⟩))
          all_goals
            go_wp2_with fail
            go_roundw
            case rel => exact ⟨3, by go_num, by omega, by rw [HM.out, HM1.out]; exact r2, HF.out _ f2⟩
            case measure => simp [intOf]
        · have hcmp : ((b : Int) != ((({ data := #[76, 79, 79, 77] } : ByteArray)[2].toNat : Nat) : Int)) = true := by
            have e : ((({ data := #[76, 79, 79, 77] } : ByteArray)[2].toNat : Nat) : Int) = 79 := rfl
            rw [e]; simp; omega
          rw [if_neg hb] at HM1
          go_wp2_with fail
          go_region_held3 (fun _ => True) (exact trivial) (first | (go_at_call 61; refine K.mono ?_; rintro x w2 ⟨rfl, r2, f2⟩))
          all_goals
            go_wp2_with fail
            refine (fail_any w2 p q l e r2 31).mono ?_
            rintro x w3 ⟨rfl, r3, f3⟩
            go_wp2_with fail
            go_roundw
            case rel => exact ⟨3, by go_num, by omega, by rw [HM.out, HM1.out]; exact r3, (HF.out _ f2).trans f3 (fun _ _ e => e) (fun _ _ e => e)⟩
            case measure => simp [intOf]
      · have HM : Hid (mkAt s 4 = mk1 77 (mkAt s 3)) := rfl
        have HM1 : Hid (mk1 77 (mkAt s 3) = if (tkB (mkAt s 3)).1 = 77 then (tkB (mkAt s 3)).2 else ((tkB (mkAt s 3)).2.1, thn (tkB (mkAt s 3)).2.2 31)) := rfl
        generalize mk1 77 (mkAt s 3) = m2 at *
        generalize tkB (mkAt s 3) = t at *
        obtain ⟨b, l, e⟩ := t
        simp only [] at K HM1
        by_cases hb : b = 77
        · subst hb
          rw [if_pos rfl] at HM1
          have hcmp : ((77 : Int) != ((({ data := #[76, 79, 79, 77] } : ByteArray)[3].toNat : Nat) : Int)) = false := rfl
          go_wp2_with fail
          go_region_held3 (fun _ => True) (exact trivial) (first | (go_at_call 61; refine K.mono ?_; rintro x w2 ⟨rfl, r2, f2⟩))
          all_goals
            go_wp2_with fail
            go_roundw
            case rel => exact ⟨4, by go_num, by omega, by rw [HM.out, HM1.out]; exact r2, HF.out _ f2⟩
            case measure => simp [intOf]
        · have hcmp : ((b : Int) != ((({ data := #[76, 79, 79, 77] } : ByteArray)[3].toNat : Nat) : Int)) = true := by
            have e : ((({ data := #[76, 79, 79, 77] } : ByteArray)[3].toNat : Nat) : Int) = 77 := rfl
            rw [e]; simp; omega
          rw [if_neg hb] at HM1
          go_wp2_with fail
          go_region_held3 (fun _ => True) (exact trivial) (first | (go_at_call 61; refine K.mono ?_; rintro x w2 ⟨rfl, r2, f2⟩))
          all_goals
            go_wp2_with fail
            refine (fail_any w2 p q l e r2 31).mono ?_
            rintro x w3 ⟨rfl, r3, f3⟩
            go_wp2_with fail
            go_roundw
            case rel => exact ⟨4, by go_num, by omega, by rw [HM.out, HM1.out]; exact r3, (HF.out _ f2).trans f3 (fun _ _ e => e) (fun _ _ e => e)⟩
            case measure => simp [intOf]
    · have : j = 4 := by omega
      subst this
      have K := rByte_any wr p q (mkAt s 4) r1
      have HM : Hid (rMark s = mk1 1 (mkAt s 4)) := rfl
      have HM1 : Hid (mk1 1 (mkAt s 4) = if (tkB (mkAt s 4)).1 = 1 then (tkB (mkAt s 4)).2 else ((tkB (mkAt s 4)).2.1, thn (tkB (mkAt s 4)).2.2 31)) := rfl
      generalize mk1 1 (mkAt s 4) = m2 at *
      generalize tkB (mkAt s 4) = t at *
      obtain ⟨b, l, e⟩ := t
      simp only [] at K HM1
      by_cases hb : b = 1
      · subst hb
        rw [if_pos rfl] at HM1
        go_wp2_with fail
        refine K.mono ?_
        rintro x w2 ⟨rfl, r2, f2⟩
        go_wp2_with fail
        go_end0
        rw [HM.out, HM1.out]
        exact ⟨rfl, r2, f1.trans f2 (fun _ _ e => e) (fun _ _ e => e)⟩
      · have hb' : ((b : Int) == 1) = false := by simp; omega
        rw [if_neg hb] at HM1
        go_wp2_with fail
        refine K.mono ?_
        rintro x w2 ⟨rfl, r2, f2⟩
        go_wp2_with fail
        refine (fail_any w2 p q l e r2 31).mono ?_
        rintro x w3 ⟨rfl, r3, f3⟩
        go_wp2_with fail
        go_end0
        rw [HM.out, HM1.out]
        exact ⟨rfl, r3, (f1.trans f2 (fun _ _ e => e) (fun _ _ e => e)).trans f3 (fun _ _ e => e) (fun _ _ e => e)⟩
end Go.Proofs.YthncdbobjeeeaaaGreatDoor

/- Lists, read: how many, then each. -/
namespace Go.Proofs.YthncdbobjeeeaaaGreatDoor
open Go.ChangeShapes Go.WideShapes Go.ChangeAt Go.RowKit

def RListCsAt (w0 : World) (p q : Nat) (most : Nat) (f : St → Cs × St) (s : St) (a : Act) (w : World) : Prop :=
  ∃ (k : Nat) (acc : List Cs) (s' : St) (u8 : Value) (u3 u4 u5 u6 u9 u10 u11 u12 u13 u14 u15 u16 u17 u18 u19 u20 u21 u22 u23 u24 u25 u26 u27 u28 u29 u30 u31 : Value),
    a = { tmps := #[.pointer (some ⟨p, 0, none⟩), .int .i64 (most : Int), .func (.func 20) #[] #[], u3, u4, u5, u6, .int .i64 (k : Int), u8, u9, u10, u11, u12, u13, u14, u15, u16, u17, u18, u19, u20, u21, u22, u23, u24, u25, u26, u27, u28, u29, u30, u31], defers := [] } ∧ k ≤ most ∧ acc.length ≤ k ∧ (OwnG elCs w u8 acc) ∧ (∀ i, u8.ownBlock = some i → w0.heap.size ≤ i) ∧
    RT w p q s' ∧ Fr (PQ p q) w0 w ∧ rLoop f (k - acc.length) acc s' = rL most f s

set_option maxRecDepth 100000 in
set_option maxHeartbeats 4000000 in
theorem readCs_list (w : World) (p q : Nat) (s : St) (h : RT w p q s) (most : Nat) (hmost : most ≤ 1000) (f : St → Cs × St)
    (READ : ∀ w1 s1, RT w1 p q s1 → Fr (PQ p q) w w1 → Calls Tryz.prog 20 #[.pointer (some ⟨p, 0, none⟩)] w1 fun x w' => x = .returned (.agg #[.int .i64 (f s1).1.k, .int .i64 (f s1).1.n, .complex .f64 (f s1).1.re (f s1).1.im, .string (f s1).1.c, .string (f s1).1.m]) ∧ RT w' p q (f s1).2 ∧ Fr (PQ p q) w1 w') :
    Calls Tryz.prog 19 #[.pointer (some ⟨p, 0, none⟩), .int .i64 (most : Int), .func (.func 20) #[] #[]] w fun x w' => ∃ v, x = .returned v ∧ (OwnG elCs w' v (rL most f s).1) ∧ RT w' p q (rL most f s).2 ∧ Fr (PQ p q) w w' := by
  have C := rCount_any w p q s h (most : Int) (by omega) (by omega)
  have hle := tkN_le most s
  have HRL : Hid (rL most f s = rLoop f (tkN (most : Int) s).1 [] (tkN (most : Int) s).2) := rfl
  have HREAD : Hid (∀ w1 s1, RT w1 p q s1 → Fr (PQ p q) w w1 → Calls Tryz.prog 20 #[.pointer (some ⟨p, 0, none⟩)] w1 fun x w' => x = .returned (.agg #[.int .i64 (f s1).1.k, .int .i64 (f s1).1.n, .complex .f64 (f s1).1.re (f s1).1.im, .string (f s1).1.c, .string (f s1).1.m]) ∧ RT w' p q (f s1).2 ∧ Fr (PQ p q) w1 w') := READ
  have hlt0 := h.lt
  clear READ
  go_enter Tryz.func19, Tryz.ntmps19
  go_wp2_with fail
  refine wp_label_one 0 (RListCsAt w p q most f s) (fun a' _ => (intOf (a'.tmps.getD 7 undef)).toNat - slen (a'.tmps.getD 8 undef)) rfl ?_ ?_
  · intro K h0 hr hn'
    generalize tkN (most : Int) s = t at *
    obtain ⟨k, t⟩ := t
    simp only [] at C hle HRL
    go_wp2_with fail
    refine C.mono ?_
    rintro x w1 ⟨rfl, r1, f1⟩
    have MK := run_makeG okCs w1 k (by omega)
    have MK' : (Instr.makeSlice 24 (.int .i64 0) (.int .i64 (k : Int))).run Tryz.prog w1 = .ok (.slice (some ⟨w1.heap.size, 0, none⟩) 0 k) (w1.alloc (.cells (madeCells elCs.z.cells (k * 5)) 39)) := MK
    have OM : OwnG elCs (w1.alloc (.cells (madeCells elCs.z.cells (k * 5)) 39)) (.slice (some ⟨w1.heap.size, 0, none⟩) 0 k) [] := ownG_made okCs w1 k (by unfold maxLen; omega)
    have fa : Fr no w1 (w1.alloc (.cells (madeCells elCs.z.cells (k * 5)) 39)) := (Fr.refl no w1).alloc _ _
    clear MK
    generalize w1.alloc (.cells (madeCells elCs.z.cells (k * 5)) 39) = W at MK' OM fa
    go_wp2_with fail
    go_step3
    rename_i hk
    refine hk _ _ (h0 _ _ ⟨k, [], t, .slice (some ⟨w1.heap.size, 0, none⟩) 0 k, _, _, _, _, _, _, _, _, _, _, _, _, _, _, _, _, _, _, _, _, _, _, _, _, _, _, _, rfl, hle, Nat.zero_le _, OM, ?_, r1.new fa, f1.trans fa (fun _ _ e => e) (fun _ _ f => f.elim), ?_⟩)
    · intro i hi
      simp only [Value.ownBlock, Option.some.injEq] at hi
      subst hi
      exact f1.size
    · rw [HRL.out]; rfl
  · clear C hle HRL
    rintro a' w' ⟨k, acc, s', u8, u3, u4, u5, u6, u9, u10, u11, u12, u13, u14, u15, u16, u17, u18, u19, u20, u21, u22, u23, u24, u25, u26, u27, u28, u29, u30, u31, rfl, hk, hacc, ho, ho0, hr1, hf1, hloop⟩ K hj hr hn'
    have HL : Hid (rLoop f (k - acc.length) acc s' = rL most f s) := hloop
    clear hloop
    obtain ⟨o, cap, eo⟩ := ho.form
    have eo : u8 = .slice o acc.length cap := eo
    obtain ⟨c0, c1, z1⟩ := RS.cells hr1
    by_cases hend : acc.length = k
    · have E : Hid (rL most f s = (acc, s')) := by show _ = _; rw [← HL.out, show k - acc.length = 0 by omega]; rfl
      have hq : ((acc.length : Int) == (k : Int)) = true := by simp; omega
      subst eo
      clear hend
      go_wp2_with fail
      refine hr _ _ ?_
      go_ret
      rw [E.out]
      exact ⟨_, rfl, ho, hr1, hf1⟩
    · have hq : ((acc.length : Int) == (k : Int)) = false := by simp; omega
      have hstep : rLoop f (k - acc.length) acc s' = if s'.2 ≠ 0 then (acc, s') else rLoop f (k - (acc.length + 1)) (acc ++ [(f s').1]) (f s').2 := by
        rw [show k - acc.length = (k - (acc.length + 1)) + 1 by omega]
        rfl
      rw [HL.out] at hstep
      obtain ⟨l', e'⟩ := s'
      simp only [] at hstep c0 c1
      by_cases he : e' = 0
      · subst he
        rw [if_neg (by simp)] at hstep
        have HS : Hid (rL most f s = rLoop f (k - (acc.length + 1)) (acc ++ [(f (l', 0)).1]) (f (l', 0)).2) := hstep
        have R := HREAD.out w' (l', 0) hr1 hf1
        clear hstep
        generalize f (l', 0) = t at *
        obtain ⟨x, t⟩ := t
        simp only [] at R HS
        subst eo
        go_wp2_with fail
        refine R.mono ?_
        rintro x' w2 ⟨rfl, r2, g2⟩
        have o2 := ho.beside hr1 (by decide) (by decide) g2
        have fA : Fr no w2 (w2.alloc (.cells #[.int .i64 x.k, .int .i64 x.n, .complex .f64 x.re x.im, .string x.c, .string x.m] 39)) := (Fr.refl no w2).alloc _ _
        have o3 := o2.kept fA (fun _ _ f => f)
        have r3 := r2.new fA
        have hS : Src Tryz.prog 5 24 (.slice (some ⟨w2.heap.size, 0, none⟩) 1 1) ([x] : List Cs).length (cg elCs [x]) (w2.alloc (.cells #[.int .i64 x.k, .int .i64 x.n, .complex .f64 x.re x.im, .string x.c, .string x.m] 39)) := srcG_one okCs w2 x
        have hbb : acc.length + ([x] : List Cs).length ≤ 1000000 := by simp; omega
        have f3 : Fr (PQ p q) w (w2.alloc (.cells #[.int .i64 x.k, .int .i64 x.n, .complex .f64 x.re x.im, .string x.c, .string x.m] 39)) := (hf1.trans g2 (fun _ _ e => e) (fun _ _ e => e)).trans fA (fun _ _ e => e) (fun _ _ f => f.elim)
        have B : Hid (∀ v4 w4, Sp no (.slice o acc.length cap) (w2.alloc (.cells #[.int .i64 x.k, .int .i64 x.n, .complex .f64 x.re x.im, .string x.c, .string x.m] 39)) v4 w4 → RT w4 p q t ∧ Fr (PQ p q) w w4 ∧ (∀ i, v4.ownBlock = some i → w.heap.size ≤ i)) := by
          intro v4 w4 s4
          have hS4 : ∀ k, (no k ∨ (Value.slice o acc.length cap).ownBlock = some k) → k ≠ p ∧ k ≠ q ∧ ∀ cur t fz, (w2.alloc (.cells #[.int .i64 x.k, .int .i64 x.n, .complex .f64 x.re x.im, .string x.c, .string x.m] 39)).heap[k]? = some (.cells cur t fz) → ∀ u ∈ cur.toList, nob u := by
            rintro k (hk | hk)
            · exact hk.elim
            · have hk0 := ho0 k hk
              exact ⟨by omega, by omega, fun cur t fz hc => o3.2 k cur t fz hk hc⟩
          refine ⟨RT.away r3 hS4 s4.1, f3.trans s4.1 (fun _ _ e => e) (fun i hi e => e.elim (fun e => e.elim) (fun e => by have := ho0 i e; omega)), fun i hi => ?_⟩
          rcases Nat.lt_or_ge i (w2.alloc (.cells #[.int .i64 x.k, .int .i64 x.n, .complex .f64 x.re x.im, .string x.c, .string x.m] 39)).heap.size with hh | hh
          · exact ho0 i (s4.2 i hh hi)
          · exact Nat.le_trans f3.size hh
        clear R o2 hf1 fA f3 g2 hr1
        go_wp2_with (at_builtin; refine wpList_apdG okCs _ rfl rfl (.tmp 26) (.tmp 30) rfl _ acc rfl o3 _ rfl [x] hS (by simp) hbb ?_; intro v4 w4 o4 s4; have b4 := B.out v4 w4 s4; obtain ⟨oo, cc, e4⟩ := o4.form; rw [List.length_append] at e4; subst e4)
        go_step3
        refine hj _ _ ⟨k, acc ++ [x], t, _, _, _, _, _, _, _, _, _, _, _, _, _, _, _, _, _, _, _, _, _, _, _, _, _, _, _, _, rfl, hk, by simp; omega, o4, b4.2.2, b4.1, b4.2.1, ?_⟩ ?_
        · rw [HS.out, List.length_append]; rfl
        · simp [intOf, slen]; omega
      · rw [if_pos he] at hstep
        have E : Hid (rL most f s = (acc, (l', e'))) := hstep
        have he' : ((e' : Int) == 0) = false := beq_eq_false_iff_ne.2 (by omega)
        subst eo
        clear hstep
        go_wp2_with fail
        refine hr _ _ ?_
        go_ret
        rw [E.out]
        exact ⟨_, rfl, ho, hr1, hf1⟩

def RListFdAt (w0 : World) (p q : Nat) (most : Nat) (f : St → Fd × St) (s : St) (a : Act) (w : World) : Prop :=
  ∃ (k : Nat) (acc : List Fd) (s' : St) (u8 : Value) (u3 u4 u5 u6 u9 u10 u11 u12 u13 u14 u15 u16 u17 u18 u19 u20 u21 u22 u23 u24 u25 u26 u27 u28 u29 u30 u31 : Value),
    a = { tmps := #[.pointer (some ⟨p, 0, none⟩), .int .i64 (most : Int), .func (.func 22) #[] #[], u3, u4, u5, u6, .int .i64 (k : Int), u8, u9, u10, u11, u12, u13, u14, u15, u16, u17, u18, u19, u20, u21, u22, u23, u24, u25, u26, u27, u28, u29, u30, u31], defers := [] } ∧ k ≤ most ∧ acc.length ≤ k ∧ (OwnG elFd w u8 acc) ∧ (∀ i, u8.ownBlock = some i → w0.heap.size ≤ i) ∧
    RT w p q s' ∧ Fr (PQ p q) w0 w ∧ rLoop f (k - acc.length) acc s' = rL most f s

set_option maxRecDepth 100000 in
set_option maxHeartbeats 4000000 in
theorem readFd_list (w : World) (p q : Nat) (s : St) (h : RT w p q s) (most : Nat) (hmost : most ≤ 1000) (f : St → Fd × St)
    (READ : ∀ w1 s1, RT w1 p q s1 → Fr (PQ p q) w w1 → Calls Tryz.prog 22 #[.pointer (some ⟨p, 0, none⟩)] w1 fun x w' => x = .returned (.agg #[.string (f s1).1.name, .int .i64 (f s1).1.ty.k, .string (f s1).1.ty.c, .bool (f s1).1.vol]) ∧ RT w' p q (f s1).2 ∧ Fr (PQ p q) w1 w') :
    Calls Tryz.prog 21 #[.pointer (some ⟨p, 0, none⟩), .int .i64 (most : Int), .func (.func 22) #[] #[]] w fun x w' => ∃ v, x = .returned v ∧ (OwnG elFd w' v (rL most f s).1) ∧ RT w' p q (rL most f s).2 ∧ Fr (PQ p q) w w' := by
  have C := rCount_any w p q s h (most : Int) (by omega) (by omega)
  have hle := tkN_le most s
  have HRL : Hid (rL most f s = rLoop f (tkN (most : Int) s).1 [] (tkN (most : Int) s).2) := rfl
  have HREAD : Hid (∀ w1 s1, RT w1 p q s1 → Fr (PQ p q) w w1 → Calls Tryz.prog 22 #[.pointer (some ⟨p, 0, none⟩)] w1 fun x w' => x = .returned (.agg #[.string (f s1).1.name, .int .i64 (f s1).1.ty.k, .string (f s1).1.ty.c, .bool (f s1).1.vol]) ∧ RT w' p q (f s1).2 ∧ Fr (PQ p q) w1 w') := READ
  have hlt0 := h.lt
  clear READ
  go_enter Tryz.func21, Tryz.ntmps21
  go_wp2_with fail
  refine wp_label_one 0 (RListFdAt w p q most f s) (fun a' _ => (intOf (a'.tmps.getD 7 undef)).toNat - slen (a'.tmps.getD 8 undef)) rfl ?_ ?_
  · intro K h0 hr hn'
    generalize tkN (most : Int) s = t at *
    obtain ⟨k, t⟩ := t
    simp only [] at C hle HRL
    go_wp2_with fail
    refine C.mono ?_
    rintro x w1 ⟨rfl, r1, f1⟩
    have MK := run_makeG okFd w1 k (by omega)
    have MK' : (Instr.makeSlice 25 (.int .i64 0) (.int .i64 (k : Int))).run Tryz.prog w1 = .ok (.slice (some ⟨w1.heap.size, 0, none⟩) 0 k) (w1.alloc (.cells (madeCells elFd.z.cells (k * 4)) 48)) := MK
    have OM : OwnG elFd (w1.alloc (.cells (madeCells elFd.z.cells (k * 4)) 48)) (.slice (some ⟨w1.heap.size, 0, none⟩) 0 k) [] := ownG_made okFd w1 k (by unfold maxLen; omega)
    have fa : Fr no w1 (w1.alloc (.cells (madeCells elFd.z.cells (k * 4)) 48)) := (Fr.refl no w1).alloc _ _
    clear MK
    generalize w1.alloc (.cells (madeCells elFd.z.cells (k * 4)) 48) = W at MK' OM fa
    go_wp2_with fail
    go_step3
    rename_i hk
    refine hk _ _ (h0 _ _ ⟨k, [], t, .slice (some ⟨w1.heap.size, 0, none⟩) 0 k, _, _, _, _, _, _, _, _, _, _, _, _, _, _, _, _, _, _, _, _, _, _, _, _, _, _, _, rfl, hle, Nat.zero_le _, OM, ?_, r1.new fa, f1.trans fa (fun _ _ e => e) (fun _ _ f => f.elim), ?_⟩)
    · intro i hi
      simp only [Value.ownBlock, Option.some.injEq] at hi
      subst hi
      exact f1.size
    · rw [HRL.out]; rfl
  · clear C hle HRL
    rintro a' w' ⟨k, acc, s', u8, u3, u4, u5, u6, u9, u10, u11, u12, u13, u14, u15, u16, u17, u18, u19, u20, u21, u22, u23, u24, u25, u26, u27, u28, u29, u30, u31, rfl, hk, hacc, ho, ho0, hr1, hf1, hloop⟩ K hj hr hn'
    have HL : Hid (rLoop f (k - acc.length) acc s' = rL most f s) := hloop
    clear hloop
    obtain ⟨o, cap, eo⟩ := ho.form
    have eo : u8 = .slice o acc.length cap := eo
    obtain ⟨c0, c1, z1⟩ := RS.cells hr1
    by_cases hend : acc.length = k
    · have E : Hid (rL most f s = (acc, s')) := by show _ = _; rw [← HL.out, show k - acc.length = 0 by omega]; rfl
      have hq : ((acc.length : Int) == (k : Int)) = true := by simp; omega
      subst eo
      clear hend
      go_wp2_with fail
      refine hr _ _ ?_
      go_ret
      rw [E.out]
      exact ⟨_, rfl, ho, hr1, hf1⟩
    · have hq : ((acc.length : Int) == (k : Int)) = false := by simp; omega
      have hstep : rLoop f (k - acc.length) acc s' = if s'.2 ≠ 0 then (acc, s') else rLoop f (k - (acc.length + 1)) (acc ++ [(f s').1]) (f s').2 := by
        rw [show k - acc.length = (k - (acc.length + 1)) + 1 by omega]
        rfl
      rw [HL.out] at hstep
      obtain ⟨l', e'⟩ := s'
      simp only [] at hstep c0 c1
      by_cases he : e' = 0
      · subst he
        rw [if_neg (by simp)] at hstep
        have HS : Hid (rL most f s = rLoop f (k - (acc.length + 1)) (acc ++ [(f (l', 0)).1]) (f (l', 0)).2) := hstep
        have R := HREAD.out w' (l', 0) hr1 hf1
        clear hstep
        generalize f (l', 0) = t at *
        obtain ⟨x, t⟩ := t
        simp only [] at R HS
        subst eo
        go_wp2_with fail
        refine R.mono ?_
        rintro x' w2 ⟨rfl, r2, g2⟩
        have o2 := ho.beside hr1 (by decide) (by decide) g2
        have fA : Fr no w2 (w2.alloc (.cells #[.string x.name, .int .i64 x.ty.k, .string x.ty.c, .bool x.vol] 48)) := (Fr.refl no w2).alloc _ _
        have o3 := o2.kept fA (fun _ _ f => f)
        have r3 := r2.new fA
        have hS : Src Tryz.prog 4 25 (.slice (some ⟨w2.heap.size, 0, none⟩) 1 1) ([x] : List Fd).length (cg elFd [x]) (w2.alloc (.cells #[.string x.name, .int .i64 x.ty.k, .string x.ty.c, .bool x.vol] 48)) := srcG_one okFd w2 x
        have hbb : acc.length + ([x] : List Fd).length ≤ 1000000 := by simp; omega
        have f3 : Fr (PQ p q) w (w2.alloc (.cells #[.string x.name, .int .i64 x.ty.k, .string x.ty.c, .bool x.vol] 48)) := (hf1.trans g2 (fun _ _ e => e) (fun _ _ e => e)).trans fA (fun _ _ e => e) (fun _ _ f => f.elim)
        have B : Hid (∀ v4 w4, Sp no (.slice o acc.length cap) (w2.alloc (.cells #[.string x.name, .int .i64 x.ty.k, .string x.ty.c, .bool x.vol] 48)) v4 w4 → RT w4 p q t ∧ Fr (PQ p q) w w4 ∧ (∀ i, v4.ownBlock = some i → w.heap.size ≤ i)) := by
          intro v4 w4 s4
          have hS4 : ∀ k, (no k ∨ (Value.slice o acc.length cap).ownBlock = some k) → k ≠ p ∧ k ≠ q ∧ ∀ cur t fz, (w2.alloc (.cells #[.string x.name, .int .i64 x.ty.k, .string x.ty.c, .bool x.vol] 48)).heap[k]? = some (.cells cur t fz) → ∀ u ∈ cur.toList, nob u := by
            rintro k (hk | hk)
            · exact hk.elim
            · have hk0 := ho0 k hk
              exact ⟨by omega, by omega, fun cur t fz hc => o3.2 k cur t fz hk hc⟩
          refine ⟨RT.away r3 hS4 s4.1, f3.trans s4.1 (fun _ _ e => e) (fun i hi e => e.elim (fun e => e.elim) (fun e => by have := ho0 i e; omega)), fun i hi => ?_⟩
          rcases Nat.lt_or_ge i (w2.alloc (.cells #[.string x.name, .int .i64 x.ty.k, .string x.ty.c, .bool x.vol] 48)).heap.size with hh | hh
          · exact ho0 i (s4.2 i hh hi)
          · exact Nat.le_trans f3.size hh
        clear R o2 hf1 fA f3 g2 hr1
        go_wp2_with (at_builtin; refine wpList_apdG okFd _ rfl rfl (.tmp 26) (.tmp 30) rfl _ acc rfl o3 _ rfl [x] hS (by simp) hbb ?_; intro v4 w4 o4 s4; have b4 := B.out v4 w4 s4; obtain ⟨oo, cc, e4⟩ := o4.form; rw [List.length_append] at e4; subst e4)
        go_step3
        refine hj _ _ ⟨k, acc ++ [x], t, _, _, _, _, _, _, _, _, _, _, _, _, _, _, _, _, _, _, _, _, _, _, _, _, _, _, _, _, rfl, hk, by simp; omega, o4, b4.2.2, b4.1, b4.2.1, ?_⟩ ?_
        · rw [HS.out, List.length_append]; rfl
        · simp [intOf, slen]; omega
      · rw [if_pos he] at hstep
        have E : Hid (rL most f s = (acc, (l', e'))) := hstep
        have he' : ((e' : Int) == 0) = false := beq_eq_false_iff_ne.2 (by omega)
        subst eo
        clear hstep
        go_wp2_with fail
        refine hr _ _ ?_
        go_ret
        rw [E.out]
        exact ⟨_, rfl, ho, hr1, hf1⟩

def RListTyAt (w0 : World) (p q : Nat) (most : Nat) (f : St → Ty × St) (s : St) (a : Act) (w : World) : Prop :=
  ∃ (k : Nat) (acc : List Ty) (s' : St) (u8 : Value) (u3 u4 u5 u6 u9 u10 u11 u12 u13 u14 u15 u16 u17 u18 u19 u20 u21 u22 u23 u24 u25 u26 u27 u28 u29 u30 u31 : Value),
    a = { tmps := #[.pointer (some ⟨p, 0, none⟩), .int .i64 (most : Int), .func (.func 68) #[] #[], u3, u4, u5, u6, .int .i64 (k : Int), u8, u9, u10, u11, u12, u13, u14, u15, u16, u17, u18, u19, u20, u21, u22, u23, u24, u25, u26, u27, u28, u29, u30, u31], defers := [] } ∧ k ≤ most ∧ acc.length ≤ k ∧ (OwnG elTy w u8 acc) ∧ (∀ i, u8.ownBlock = some i → w0.heap.size ≤ i) ∧
    RT w p q s' ∧ Fr (PQ p q) w0 w ∧ rLoop f (k - acc.length) acc s' = rL most f s

set_option maxRecDepth 100000 in
set_option maxHeartbeats 4000000 in
theorem readTy_list (w : World) (p q : Nat) (s : St) (h : RT w p q s) (most : Nat) (hmost : most ≤ 1000) (f : St → Ty × St)
    (READ : ∀ w1 s1, RT w1 p q s1 → Fr (PQ p q) w w1 → Calls Tryz.prog 68 #[.pointer (some ⟨p, 0, none⟩)] w1 fun x w' => x = .returned (.agg #[.int .i64 (f s1).1.k, .string (f s1).1.c]) ∧ RT w' p q (f s1).2 ∧ Fr (PQ p q) w1 w') :
    Calls Tryz.prog 70 #[.pointer (some ⟨p, 0, none⟩), .int .i64 (most : Int), .func (.func 68) #[] #[]] w fun x w' => ∃ v, x = .returned v ∧ (OwnG elTy w' v (rL most f s).1) ∧ RT w' p q (rL most f s).2 ∧ Fr (PQ p q) w w' := by
  have C := rCount_any w p q s h (most : Int) (by omega) (by omega)
  have hle := tkN_le most s
  have HRL : Hid (rL most f s = rLoop f (tkN (most : Int) s).1 [] (tkN (most : Int) s).2) := rfl
  have HREAD : Hid (∀ w1 s1, RT w1 p q s1 → Fr (PQ p q) w w1 → Calls Tryz.prog 68 #[.pointer (some ⟨p, 0, none⟩)] w1 fun x w' => x = .returned (.agg #[.int .i64 (f s1).1.k, .string (f s1).1.c]) ∧ RT w' p q (f s1).2 ∧ Fr (PQ p q) w1 w') := READ
  have hlt0 := h.lt
  clear READ
  go_enter Tryz.func70, Tryz.ntmps70
  go_wp2_with fail
  refine wp_label_one 0 (RListTyAt w p q most f s) (fun a' _ => (intOf (a'.tmps.getD 7 undef)).toNat - slen (a'.tmps.getD 8 undef)) rfl ?_ ?_
  · intro K h0 hr hn'
    generalize tkN (most : Int) s = t at *
    obtain ⟨k, t⟩ := t
    simp only [] at C hle HRL
    go_wp2_with fail
    refine C.mono ?_
    rintro x w1 ⟨rfl, r1, f1⟩
    have MK := run_makeG okTy w1 k (by omega)
    have MK' : (Instr.makeSlice 49 (.int .i64 0) (.int .i64 (k : Int))).run Tryz.prog w1 = .ok (.slice (some ⟨w1.heap.size, 0, none⟩) 0 k) (w1.alloc (.cells (madeCells elTy.z.cells (k * 2)) 46)) := MK
    have OM : OwnG elTy (w1.alloc (.cells (madeCells elTy.z.cells (k * 2)) 46)) (.slice (some ⟨w1.heap.size, 0, none⟩) 0 k) [] := ownG_made okTy w1 k (by unfold maxLen; omega)
    have fa : Fr no w1 (w1.alloc (.cells (madeCells elTy.z.cells (k * 2)) 46)) := (Fr.refl no w1).alloc _ _
    clear MK
    generalize w1.alloc (.cells (madeCells elTy.z.cells (k * 2)) 46) = W at MK' OM fa
    go_wp2_with fail
    go_step3
    rename_i hk
    refine hk _ _ (h0 _ _ ⟨k, [], t, .slice (some ⟨w1.heap.size, 0, none⟩) 0 k, _, _, _, _, _, _, _, _, _, _, _, _, _, _, _, _, _, _, _, _, _, _, _, _, _, _, _, rfl, hle, Nat.zero_le _, OM, ?_, r1.new fa, f1.trans fa (fun _ _ e => e) (fun _ _ f => f.elim), ?_⟩)
    · intro i hi
      simp only [Value.ownBlock, Option.some.injEq] at hi
      subst hi
      exact f1.size
    · rw [HRL.out]; rfl
  · clear C hle HRL
    rintro a' w' ⟨k, acc, s', u8, u3, u4, u5, u6, u9, u10, u11, u12, u13, u14, u15, u16, u17, u18, u19, u20, u21, u22, u23, u24, u25, u26, u27, u28, u29, u30, u31, rfl, hk, hacc, ho, ho0, hr1, hf1, hloop⟩ K hj hr hn'
    have HL : Hid (rLoop f (k - acc.length) acc s' = rL most f s) := hloop
    clear hloop
    obtain ⟨o, cap, eo⟩ := ho.form
    have eo : u8 = .slice o acc.length cap := eo
    obtain ⟨c0, c1, z1⟩ := RS.cells hr1
    by_cases hend : acc.length = k
    · have E : Hid (rL most f s = (acc, s')) := by show _ = _; rw [← HL.out, show k - acc.length = 0 by omega]; rfl
      have hq : ((acc.length : Int) == (k : Int)) = true := by simp; omega
      subst eo
      clear hend
      go_wp2_with fail
      refine hr _ _ ?_
      go_ret
      rw [E.out]
      exact ⟨_, rfl, ho, hr1, hf1⟩
    · have hq : ((acc.length : Int) == (k : Int)) = false := by simp; omega
      have hstep : rLoop f (k - acc.length) acc s' = if s'.2 ≠ 0 then (acc, s') else rLoop f (k - (acc.length + 1)) (acc ++ [(f s').1]) (f s').2 := by
        rw [show k - acc.length = (k - (acc.length + 1)) + 1 by omega]
        rfl
      rw [HL.out] at hstep
      obtain ⟨l', e'⟩ := s'
      simp only [] at hstep c0 c1
      by_cases he : e' = 0
      · subst he
        rw [if_neg (by simp)] at hstep
        have HS : Hid (rL most f s = rLoop f (k - (acc.length + 1)) (acc ++ [(f (l', 0)).1]) (f (l', 0)).2) := hstep
        have R := HREAD.out w' (l', 0) hr1 hf1
        clear hstep
        generalize f (l', 0) = t at *
        obtain ⟨x, t⟩ := t
        simp only [] at R HS
        subst eo
        go_wp2_with fail
        refine R.mono ?_
        rintro x' w2 ⟨rfl, r2, g2⟩
        have o2 := ho.beside hr1 (by decide) (by decide) g2
        have fA : Fr no w2 (w2.alloc (.cells #[.int .i64 x.k, .string x.c] 46)) := (Fr.refl no w2).alloc _ _
        have o3 := o2.kept fA (fun _ _ f => f)
        have r3 := r2.new fA
        have hS : Src Tryz.prog 2 49 (.slice (some ⟨w2.heap.size, 0, none⟩) 1 1) ([x] : List Ty).length (cg elTy [x]) (w2.alloc (.cells #[.int .i64 x.k, .string x.c] 46)) := srcG_one okTy w2 x
        have hbb : acc.length + ([x] : List Ty).length ≤ 1000000 := by simp; omega
        have f3 : Fr (PQ p q) w (w2.alloc (.cells #[.int .i64 x.k, .string x.c] 46)) := (hf1.trans g2 (fun _ _ e => e) (fun _ _ e => e)).trans fA (fun _ _ e => e) (fun _ _ f => f.elim)
        have B : Hid (∀ v4 w4, Sp no (.slice o acc.length cap) (w2.alloc (.cells #[.int .i64 x.k, .string x.c] 46)) v4 w4 → RT w4 p q t ∧ Fr (PQ p q) w w4 ∧ (∀ i, v4.ownBlock = some i → w.heap.size ≤ i)) := by
          intro v4 w4 s4
          have hS4 : ∀ k, (no k ∨ (Value.slice o acc.length cap).ownBlock = some k) → k ≠ p ∧ k ≠ q ∧ ∀ cur t fz, (w2.alloc (.cells #[.int .i64 x.k, .string x.c] 46)).heap[k]? = some (.cells cur t fz) → ∀ u ∈ cur.toList, nob u := by
            rintro k (hk | hk)
            · exact hk.elim
            · have hk0 := ho0 k hk
              exact ⟨by omega, by omega, fun cur t fz hc => o3.2 k cur t fz hk hc⟩
          refine ⟨RT.away r3 hS4 s4.1, f3.trans s4.1 (fun _ _ e => e) (fun i hi e => e.elim (fun e => e.elim) (fun e => by have := ho0 i e; omega)), fun i hi => ?_⟩
          rcases Nat.lt_or_ge i (w2.alloc (.cells #[.int .i64 x.k, .string x.c] 46)).heap.size with hh | hh
          · exact ho0 i (s4.2 i hh hi)
          · exact Nat.le_trans f3.size hh
        clear R o2 hf1 fA f3 g2 hr1
        go_wp2_with (at_builtin; refine wpList_apdG okTy _ rfl rfl (.tmp 26) (.tmp 30) rfl _ acc rfl o3 _ rfl [x] hS (by simp) hbb ?_; intro v4 w4 o4 s4; have b4 := B.out v4 w4 s4; obtain ⟨oo, cc, e4⟩ := o4.form; rw [List.length_append] at e4; subst e4)
        go_step3
        refine hj _ _ ⟨k, acc ++ [x], t, _, _, _, _, _, _, _, _, _, _, _, _, _, _, _, _, _, _, _, _, _, _, _, _, _, _, _, _, rfl, hk, by simp; omega, o4, b4.2.2, b4.1, b4.2.1, ?_⟩ ?_
        · rw [HS.out, List.length_append]; rfl
        · simp [intOf, slen]; omega
      · rw [if_pos he] at hstep
        have E : Hid (rL most f s = (acc, (l', e'))) := hstep
        have he' : ((e' : Int) == 0) = false := beq_eq_false_iff_ne.2 (by omega)
        subst eo
        clear hstep
        go_wp2_with fail
        refine hr _ _ ?_
        go_ret
        rw [E.out]
        exact ⟨_, rfl, ho, hr1, hf1⟩

def RListHdAt (w0 : World) (p q : Nat) (most : Nat) (f : St → Hd × St) (s : St) (a : Act) (w : World) : Prop :=
  ∃ (k : Nat) (acc : List Hd) (s' : St) (u8 : Value) (u3 u4 u5 u6 u9 u10 u11 u12 u13 u14 u15 u16 u17 u18 u19 u20 u21 u22 u23 u24 u25 u26 u27 u28 u29 u30 u31 : Value),
    a = { tmps := #[.pointer (some ⟨p, 0, none⟩), .int .i64 (most : Int), .func (.func 73) #[] #[], u3, u4, u5, u6, .int .i64 (k : Int), u8, u9, u10, u11, u12, u13, u14, u15, u16, u17, u18, u19, u20, u21, u22, u23, u24, u25, u26, u27, u28, u29, u30, u31], defers := [] } ∧ k ≤ most ∧ acc.length ≤ k ∧ (OwnG elHd w u8 acc) ∧ (∀ i, u8.ownBlock = some i → w0.heap.size ≤ i) ∧
    RT w p q s' ∧ Fr (PQ p q) w0 w ∧ rLoop f (k - acc.length) acc s' = rL most f s

set_option maxRecDepth 100000 in
set_option maxHeartbeats 4000000 in
theorem readHd_list (w : World) (p q : Nat) (s : St) (h : RT w p q s) (most : Nat) (hmost : most ≤ 1000) (f : St → Hd × St)
    (READ : ∀ w1 s1, RT w1 p q s1 → Fr (PQ p q) w w1 → Calls Tryz.prog 73 #[.pointer (some ⟨p, 0, none⟩)] w1 fun x w' => x = .returned (.agg #[.int .i64 (f s1).1.fr, .int .i64 (f s1).1.to, .int .i64 (f s1).1.tg, .int .i64 (f s1).1.cl, .int .i64 (f s1).1.dp]) ∧ RT w' p q (f s1).2 ∧ Fr (PQ p q) w1 w') :
    Calls Tryz.prog 72 #[.pointer (some ⟨p, 0, none⟩), .int .i64 (most : Int), .func (.func 73) #[] #[]] w fun x w' => ∃ v, x = .returned v ∧ (OwnG elHd w' v (rL most f s).1) ∧ RT w' p q (rL most f s).2 ∧ Fr (PQ p q) w w' := by
  have C := rCount_any w p q s h (most : Int) (by omega) (by omega)
  have hle := tkN_le most s
  have HRL : Hid (rL most f s = rLoop f (tkN (most : Int) s).1 [] (tkN (most : Int) s).2) := rfl
  have HREAD : Hid (∀ w1 s1, RT w1 p q s1 → Fr (PQ p q) w w1 → Calls Tryz.prog 73 #[.pointer (some ⟨p, 0, none⟩)] w1 fun x w' => x = .returned (.agg #[.int .i64 (f s1).1.fr, .int .i64 (f s1).1.to, .int .i64 (f s1).1.tg, .int .i64 (f s1).1.cl, .int .i64 (f s1).1.dp]) ∧ RT w' p q (f s1).2 ∧ Fr (PQ p q) w1 w') := READ
  have hlt0 := h.lt
  clear READ
  go_enter Tryz.func72, Tryz.ntmps72
  go_wp2_with fail
  refine wp_label_one 0 (RListHdAt w p q most f s) (fun a' _ => (intOf (a'.tmps.getD 7 undef)).toNat - slen (a'.tmps.getD 8 undef)) rfl ?_ ?_
  · intro K h0 hr hn'
    generalize tkN (most : Int) s = t at *
    obtain ⟨k, t⟩ := t
    simp only [] at C hle HRL
    go_wp2_with fail
    refine C.mono ?_
    rintro x w1 ⟨rfl, r1, f1⟩
    have MK := run_makeG okHd w1 k (by omega)
    have MK' : (Instr.makeSlice 51 (.int .i64 0) (.int .i64 (k : Int))).run Tryz.prog w1 = .ok (.slice (some ⟨w1.heap.size, 0, none⟩) 0 k) (w1.alloc (.cells (madeCells elHd.z.cells (k * 5)) 59)) := MK
    have OM : OwnG elHd (w1.alloc (.cells (madeCells elHd.z.cells (k * 5)) 59)) (.slice (some ⟨w1.heap.size, 0, none⟩) 0 k) [] := ownG_made okHd w1 k (by unfold maxLen; omega)
    have fa : Fr no w1 (w1.alloc (.cells (madeCells elHd.z.cells (k * 5)) 59)) := (Fr.refl no w1).alloc _ _
    clear MK
    generalize w1.alloc (.cells (madeCells elHd.z.cells (k * 5)) 59) = W at MK' OM fa
    go_wp2_with fail
    go_step3
    rename_i hk
    refine hk _ _ (h0 _ _ ⟨k, [], t, .slice (some ⟨w1.heap.size, 0, none⟩) 0 k, _, _, _, _, _, _, _, _, _, _, _, _, _, _, _, _, _, _, _, _, _, _, _, _, _, _, _, rfl, hle, Nat.zero_le _, OM, ?_, r1.new fa, f1.trans fa (fun _ _ e => e) (fun _ _ f => f.elim), ?_⟩)
    · intro i hi
      simp only [Value.ownBlock, Option.some.injEq] at hi
      subst hi
      exact f1.size
    · rw [HRL.out]; rfl
  · clear C hle HRL
    rintro a' w' ⟨k, acc, s', u8, u3, u4, u5, u6, u9, u10, u11, u12, u13, u14, u15, u16, u17, u18, u19, u20, u21, u22, u23, u24, u25, u26, u27, u28, u29, u30, u31, rfl, hk, hacc, ho, ho0, hr1, hf1, hloop⟩ K hj hr hn'
    have HL : Hid (rLoop f (k - acc.length) acc s' = rL most f s) := hloop
    clear hloop
    obtain ⟨o, cap, eo⟩ := ho.form
    have eo : u8 = .slice o acc.length cap := eo
    obtain ⟨c0, c1, z1⟩ := RS.cells hr1
    by_cases hend : acc.length = k
    · have E : Hid (rL most f s = (acc, s')) := by show _ = _; rw [← HL.out, show k - acc.length = 0 by omega]; rfl
      have hq : ((acc.length : Int) == (k : Int)) = true := by simp; omega
      subst eo
      clear hend
      go_wp2_with fail
      refine hr _ _ ?_
      go_ret
      rw [E.out]
      exact ⟨_, rfl, ho, hr1, hf1⟩
    · have hq : ((acc.length : Int) == (k : Int)) = false := by simp; omega
      have hstep : rLoop f (k - acc.length) acc s' = if s'.2 ≠ 0 then (acc, s') else rLoop f (k - (acc.length + 1)) (acc ++ [(f s').1]) (f s').2 := by
        rw [show k - acc.length = (k - (acc.length + 1)) + 1 by omega]
        rfl
      rw [HL.out] at hstep
      obtain ⟨l', e'⟩ := s'
      simp only [] at hstep c0 c1
      by_cases he : e' = 0
      · subst he
        rw [if_neg (by simp)] at hstep
        have HS : Hid (rL most f s = rLoop f (k - (acc.length + 1)) (acc ++ [(f (l', 0)).1]) (f (l', 0)).2) := hstep
        have R := HREAD.out w' (l', 0) hr1 hf1
        clear hstep
        generalize f (l', 0) = t at *
        obtain ⟨x, t⟩ := t
        simp only [] at R HS
        subst eo
        go_wp2_with fail
        refine R.mono ?_
        rintro x' w2 ⟨rfl, r2, g2⟩
        have o2 := ho.beside hr1 (by decide) (by decide) g2
        have fA : Fr no w2 (w2.alloc (.cells #[.int .i64 x.fr, .int .i64 x.to, .int .i64 x.tg, .int .i64 x.cl, .int .i64 x.dp] 59)) := (Fr.refl no w2).alloc _ _
        have o3 := o2.kept fA (fun _ _ f => f)
        have r3 := r2.new fA
        have hS : Src Tryz.prog 5 51 (.slice (some ⟨w2.heap.size, 0, none⟩) 1 1) ([x] : List Hd).length (cg elHd [x]) (w2.alloc (.cells #[.int .i64 x.fr, .int .i64 x.to, .int .i64 x.tg, .int .i64 x.cl, .int .i64 x.dp] 59)) := srcG_one okHd w2 x
        have hbb : acc.length + ([x] : List Hd).length ≤ 1000000 := by simp; omega
        have f3 : Fr (PQ p q) w (w2.alloc (.cells #[.int .i64 x.fr, .int .i64 x.to, .int .i64 x.tg, .int .i64 x.cl, .int .i64 x.dp] 59)) := (hf1.trans g2 (fun _ _ e => e) (fun _ _ e => e)).trans fA (fun _ _ e => e) (fun _ _ f => f.elim)
        have B : Hid (∀ v4 w4, Sp no (.slice o acc.length cap) (w2.alloc (.cells #[.int .i64 x.fr, .int .i64 x.to, .int .i64 x.tg, .int .i64 x.cl, .int .i64 x.dp] 59)) v4 w4 → RT w4 p q t ∧ Fr (PQ p q) w w4 ∧ (∀ i, v4.ownBlock = some i → w.heap.size ≤ i)) := by
          intro v4 w4 s4
          have hS4 : ∀ k, (no k ∨ (Value.slice o acc.length cap).ownBlock = some k) → k ≠ p ∧ k ≠ q ∧ ∀ cur t fz, (w2.alloc (.cells #[.int .i64 x.fr, .int .i64 x.to, .int .i64 x.tg, .int .i64 x.cl, .int .i64 x.dp] 59)).heap[k]? = some (.cells cur t fz) → ∀ u ∈ cur.toList, nob u := by
            rintro k (hk | hk)
            · exact hk.elim
            · have hk0 := ho0 k hk
              exact ⟨by omega, by omega, fun cur t fz hc => o3.2 k cur t fz hk hc⟩
          refine ⟨RT.away r3 hS4 s4.1, f3.trans s4.1 (fun _ _ e => e) (fun i hi e => e.elim (fun e => e.elim) (fun e => by have := ho0 i e; omega)), fun i hi => ?_⟩
          rcases Nat.lt_or_ge i (w2.alloc (.cells #[.int .i64 x.fr, .int .i64 x.to, .int .i64 x.tg, .int .i64 x.cl, .int .i64 x.dp] 59)).heap.size with hh | hh
          · exact ho0 i (s4.2 i hh hi)
          · exact Nat.le_trans f3.size hh
        clear R o2 hf1 fA f3 g2 hr1
        go_wp2_with (at_builtin; refine wpList_apdG okHd _ rfl rfl (.tmp 26) (.tmp 30) rfl _ acc rfl o3 _ rfl [x] hS (by simp) hbb ?_; intro v4 w4 o4 s4; have b4 := B.out v4 w4 s4; obtain ⟨oo, cc, e4⟩ := o4.form; rw [List.length_append] at e4; subst e4)
        go_step3
        refine hj _ _ ⟨k, acc ++ [x], t, _, _, _, _, _, _, _, _, _, _, _, _, _, _, _, _, _, _, _, _, _, _, _, _, _, _, _, _, rfl, hk, by simp; omega, o4, b4.2.2, b4.1, b4.2.1, ?_⟩ ?_
        · rw [HS.out, List.length_append]; rfl
        · simp [intOf, slen]; omega
      · rw [if_pos he] at hstep
        have E : Hid (rL most f s = (acc, (l', e'))) := hstep
        have he' : ((e' : Int) == 0) = false := beq_eq_false_iff_ne.2 (by omega)
        subst eo
        clear hstep
        go_wp2_with fail
        refine hr _ _ ?_
        go_ret
        rw [E.out]
        exact ⟨_, rfl, ho, hr1, hf1⟩
end Go.Proofs.YthncdbobjeeeaaaGreatDoor

