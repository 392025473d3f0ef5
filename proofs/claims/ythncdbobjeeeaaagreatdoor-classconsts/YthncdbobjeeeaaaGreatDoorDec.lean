/- What is read is what was written, and nothing else is: types, constants, fields, handlers, code, methods, classes: without memory. -/
import Derived.Test.YthncdbobjeeeaaaGreatDoorGood
namespace Go.Proofs.YthncdbobjeeeaaaGreatDoor

theorem tkB_stuck {s : St} (h : s.2 ≠ 0) : tkB s = (0, s) := by unfold tkB; rw [if_neg h]

theorem good20 : Good (tkT 20) enTx (fun s => s.size ≤ 20) (fun s => s.size ≤ 20) := goodT 20 (by omega)

theorem goodTy : Good rTy enTy VTy (fun t => t.c.size ≤ 20) where
  stuck s hs := by unfold rTy; rw [tkB_stuck hs]; rfl
  sound s hs he := by
    unfold rTy at he ⊢
    by_cases h4 : (tkB s).1 = 4
    · rw [if_pos h4] at he ⊢
      obtain ⟨a1, a2⟩ := (goodT 20 (by omega)).sound _ (goodB.by_ hs) he
      obtain ⟨b1, b2⟩ := goodB.sound s hs a1
      refine ⟨b1, ?_⟩
      rw [b2, h4, a2]
      rfl
    · rw [if_neg h4] at he ⊢
      obtain ⟨b1, b2⟩ := goodB.sound s hs he
      refine ⟨b1, ?_⟩
      have e : enTy ⟨((tkB s).1 : Int), e0⟩ = [(tkB s).1] := by unfold enTy; simp only []; rw [if_neg (by omega)]; simp
      simp only []
      rw [e]
      exact b2
  compl t r ht := by
    obtain ⟨k, c⟩ := t
    obtain ⟨h1, h2, h3, h4⟩ := ht
    simp only [] at h1 h2 h3 h4
    obtain ⟨n, rfl⟩ : ∃ n : Nat, k = (n : Int) := ⟨k.toNat, by omega⟩
    have e : enTy ⟨(n : Int), c⟩ ++ r = [n] ++ ((if (n : Int) = 4 then enTx c else []) ++ r) := by unfold enTy; simp
    unfold rTy
    rw [e, goodB.compl n _ trivial]
    simp only []
    by_cases hn : n = 4
    · subst hn
      rw [if_pos rfl, if_pos (by decide), good20.compl c r h3]
      rfl
    · rw [if_neg hn, if_neg (by omega), List.nil_append, h4 (by omega)]
  suff s := by
    obtain ⟨k, e⟩ := goodB.suff s
    unfold rTy
    split
    · obtain ⟨j, e'⟩ := (goodT 20 (by omega)).suff (tkB s).2
      exact ⟨k + j, by simp only []; rw [← List.drop_drop, ← e]; exact e'⟩
    · exact ⟨k, e⟩
  range s hs := by
    unfold rTy
    split
    · exact (goodT 20 (by omega)).range _ (goodB.range s hs)
    · exact goodB.range s hs
  fit s hs := by
    unfold rTy
    split
    · exact (goodT 20 (by omega)).fit _ (goodB.by_ hs)
    · simp [e0_size]

/-- A constant as it is read. -/
structure RCs (x : Cs) : Prop where
  c : x.c.size ≤ 20
  m : x.m.size ≤ 20
  fit : FitCs x

theorem goodCs : Good rCs enCs (fun x => VCs x ∧ FitCs x) RCs where
  stuck s hs := by unfold rCs; rw [tkB_stuck hs]; rfl
  sound s hs he := by
    have hB := goodB.by_ hs
    unfold rCs at he ⊢
    by_cases h1 : (tkB s).1 = 1
    · rw [if_pos h1] at he ⊢
      obtain ⟨a1, a2⟩ := goodI.sound _ hB he
      obtain ⟨b1, b2⟩ := goodB.sound s hs a1
      exact ⟨b1, by rw [b2, h1, a2]; rfl⟩
    rw [if_neg h1] at he ⊢
    by_cases h2 : (tkB s).1 = 2
    · rw [if_pos h2] at he ⊢
      obtain ⟨a1, a2⟩ := goodC.sound _ hB he
      obtain ⟨b1, b2⟩ := goodB.sound s hs a1
      exact ⟨b1, by rw [b2, h2, a2]; rfl⟩
    rw [if_neg h2] at he ⊢
    by_cases h3 : (tkB s).1 = 3
    · rw [if_pos h3] at he ⊢
      obtain ⟨a1, a2⟩ := good20.sound _ hB he
      obtain ⟨b1, b2⟩ := goodB.sound s hs a1
      exact ⟨b1, by rw [b2, h3, a2]; rfl⟩
    rw [if_neg h3] at he ⊢
    by_cases h4 : (tkB s).1 = 4 ∨ (tkB s).1 = 5
    · rw [if_pos h4] at he ⊢
      obtain ⟨c1, c2⟩ := good20.sound _ (good20.by_ hB) he
      obtain ⟨a1, a2⟩ := good20.sound _ hB c1
      obtain ⟨b1, b2⟩ := goodB.sound s hs a1
      refine ⟨b1, ?_⟩
      rw [b2, a2, c2]
      have e : ∀ (n : Nat) (u v : ByteArray), n = 4 ∨ n = 5 → enCs ⟨(n : Int), 0, 0, 0, u, v⟩ = n :: (enTx u ++ enTx v) := by
        intro n u v hn
        unfold enCs
        simp only []
        rw [if_neg (by omega), if_neg (by omega), if_neg (by omega), if_pos (by omega)]
        rfl
      rw [e _ _ _ h4]
      simp
    · rw [if_neg h4] at he ⊢
      obtain ⟨b1, b2⟩ := goodB.sound s hs he
      refine ⟨b1, ?_⟩
      have e : enCs ⟨((tkB s).1 : Int), 0, 0, 0, e0, e0⟩ = [(tkB s).1] := by
        unfold enCs
        simp only []
        rw [if_neg (by omega), if_neg (by omega), if_neg (by omega), if_neg (by omega)]
        rfl
      simp only []
      rw [e]
      exact b2
  compl x r hx := by
    obtain ⟨k, n, re, im, c, m⟩ := x
    obtain ⟨⟨v1, v2, v3, v4, v5, v6, v7, v8⟩, f1, f2, f3, f4⟩ := hx
    simp only [] at *
    obtain ⟨j, rfl⟩ : ∃ j : Nat, k = (j : Int) := ⟨k.toNat, by omega⟩
    have e : enCs ⟨(j : Int), n, re, im, c, m⟩ ++ r = [j] ++ ((if (j : Int) = 1 then enc (fo n) else if (j : Int) = 2 then le re 8 ++ le im 8 else if (j : Int) = 3 then enTx c else if (j : Int) = 4 ∨ (j : Int) = 5 then enTx c ++ enTx m else []) ++ r) := by
      unfold enCs
      simp
    unfold rCs
    rw [e, goodB.compl j _ trivial]
    simp only []
    rcases (show j = 1 ∨ j = 2 ∨ j = 3 ∨ j = 4 ∨ j = 5 by omega) with rfl | rfl | rfl | rfl | rfl
    · rw [if_pos rfl, if_pos (by decide), goodI.compl n r ⟨f1, f2⟩, (v6 (by decide)).1, (v6 (by decide)).2, v7 (by decide), v8 (by decide)]
      rfl
    · rw [if_neg (by decide), if_pos rfl, if_neg (by decide), if_pos (by decide), goodC.compl (re, im) r ⟨f3, f4⟩, v5 (by decide), v7 (by decide), v8 (by decide)]
      rfl
    · rw [if_neg (by decide), if_neg (by decide), if_pos rfl, if_neg (by decide), if_neg (by decide), if_pos (by decide), good20.compl c r v3, v5 (by decide), (v6 (by decide)).1, (v6 (by decide)).2, v8 (by decide)]
      rfl
    · rw [if_neg (by decide), if_neg (by decide), if_neg (by decide), if_pos (by decide), if_neg (by decide), if_neg (by decide), if_neg (by decide), if_pos (by decide), List.append_assoc, good20.compl c _ v3]
      simp only []
      rw [good20.compl m r v4, v5 (by decide), (v6 (by decide)).1, (v6 (by decide)).2]
    · rw [if_neg (by decide), if_neg (by decide), if_neg (by decide), if_pos (by decide), if_neg (by decide), if_neg (by decide), if_neg (by decide), if_pos (by decide), List.append_assoc, good20.compl c _ v3]
      simp only []
      rw [good20.compl m r v4, v5 (by decide), (v6 (by decide)).1, (v6 (by decide)).2]
  suff s := by
    obtain ⟨k, e⟩ := goodB.suff s
    unfold rCs
    split
    · obtain ⟨j, e'⟩ := goodI.suff (tkB s).2
      exact ⟨k + j, by simp only []; rw [← List.drop_drop, ← e]; exact e'⟩
    split
    · obtain ⟨j, e'⟩ := goodC.suff (tkB s).2
      exact ⟨k + j, by simp only []; rw [← List.drop_drop, ← e]; exact e'⟩
    split
    · obtain ⟨j, e'⟩ := good20.suff (tkB s).2
      exact ⟨k + j, by simp only []; rw [← List.drop_drop, ← e]; exact e'⟩
    split
    · obtain ⟨j, e'⟩ := good20.suff (tkB s).2
      obtain ⟨i, e''⟩ := good20.suff (tkT 20 (tkB s).2).2
      exact ⟨k + j + i, by simp only []; rw [← List.drop_drop, ← List.drop_drop, ← e, ← e']; exact e''⟩
    · exact ⟨k, e⟩
  range s hs := by
    have hB := goodB.range s hs
    unfold rCs
    split
    · exact goodI.range _ hB
    split
    · exact goodC.range _ hB
    split
    · exact good20.range _ hB
    split
    · exact good20.range _ (good20.range _ hB)
    · exact hB
  fit s hs := by
    have hB := goodB.by_ hs
    unfold rCs
    split
    · have := goodI.fit _ hB
      exact ⟨by simp [e0_size], by simp [e0_size], this.1, this.2, by simp, by simp⟩
    split
    · have := goodC.fit _ hB
      exact ⟨by simp [e0_size], by simp [e0_size], by simp, by simp, this.1, this.2⟩
    split
    · have := good20.fit _ hB
      exact ⟨this, by simp [e0_size], by simp, by simp, by simp, by simp⟩
    split
    · exact ⟨good20.fit _ hB, good20.fit _ (good20.by_ hB), by simp, by simp, by simp, by simp⟩
    · exact ⟨by simp [e0_size], by simp [e0_size], by simp, by simp, by simp, by simp⟩

theorem goodFd : Good rFd enFd VFd (fun x => x.name.size ≤ 20 ∧ x.ty.c.size ≤ 20) :=
  ((good20.pair (goodTy.pair goodF)).map (fun x => (⟨x.1, x.2.1, x.2.2⟩ : Fd)) (fun x => (x.name, (x.ty, x.vol))) (fun _ => rfl) rFd (fun _ => rfl) enFd (fun x => by unfold enFd; rfl)).weaken
    (fun x hx => ⟨⟨hx.name, hx.ty, trivial⟩, rfl⟩) (fun x hx => ⟨hx.1, hx.2.1⟩)

theorem goodHd : Good rHd enHd VHd (fun _ => True) :=
  (((goodN 200 (by omega)).pair ((goodN 200 (by omega)).pair ((goodN 200 (by omega)).pair ((goodN 128 (by omega)).pair (goodN 6 (by omega)))))).map
    (fun x => (⟨(x.1 : Int), (x.2.1 : Int), (x.2.2.1 : Int), (x.2.2.2.1 : Int) - 1, (x.2.2.2.2 : Int)⟩ : Hd)) (fun h => (h.fr.toNat, (h.to.toNat, (h.tg.toNat, ((h.cl + 1).toNat, h.dp.toNat))))) (fun x => by
      obtain ⟨a, b, c, d, e⟩ := x
      simp) rHd (fun _ => rfl) enHd (fun x => by unfold enHd; rfl)).weaken
    (fun x hx => by
      obtain ⟨fr, to, tg, cl, dp⟩ := x
      obtain ⟨h1, h2, h3, h4, h5⟩ := hx
      simp only [] at h1 h2 h3 h4 h5
      refine ⟨⟨by simp only []; omega, by simp only []; omega, by simp only []; omega, by simp only []; omega, by simp only []; omega⟩, ?_⟩
      simp only [Hd.mk.injEq]
      refine ⟨by omega, by omega, by omega, by omega, by omega⟩) (fun _ _ => trivial)

theorem rone_range (r : List Nat) : InR (rone r).2.1 := by
  cases r with
  | nil => exact .inr ⟨by simp [rone], by simp [rone]⟩
  | cons c r =>
    rw [rone_cons]
    split
    · exact .inr ⟨by simp, by simp⟩
    · split
      · exact .inl rfl
      · split
        · exact rd_range r 0 0
        · split
          · exact .inr ⟨by simp, by simp⟩
          · exact .inl rfl

theorem fin_range (n : Nat) : ∀ acc r, InR (fin acc n r).2 := by
  induction n with
  | zero =>
    intro acc r
    unfold fin
    split
    · exact .inl rfl
    · exact r31
  | succ n ih =>
    intro acc r
    unfold fin
    split
    · exact rone_range r
    · exact ih _ _

theorem gt_range (b : List Nat) : InR (gt b).2 := by
  unfold gt
  split
  · exact ct_range b 200
  · exact fin_range _ _ _

def enCode (l : List (Int × Int)) : List Nat := enc (ptB l).length ++ ptB l

theorem goodCode : Good rCode enCode (fun l => l.length ≤ 200 ∧ allIs l = true) (fun _ => True) where
  stuck s hs := by
    unfold rCode
    have e := (goodT 20000 (by omega)).stuck s hs
    have e : (tkT 20000 s).2 = s := e
    rw [e, if_neg hs]
  sound s hs he := by
    have G := goodT 20000 (by omega)
    unfold rCode at he ⊢
    by_cases h0 : (tkT 20000 s).2.2 = 0
    · rw [if_pos h0] at he ⊢
      obtain ⟨a1, a2⟩ := G.sound s hs h0
      have a2 : s.1 = enTx (tkT 20000 s).1 ++ (tkT 20000 s).2.1 := a2
      obtain ⟨g1, g2, g3⟩ := gt_inv (nl (tkT 20000 s).1) (nl_lt _) he
      refine ⟨a1, ?_⟩
      simp only []
      unfold enCode
      rw [← g1, nl_length]
      exact a2
    · rw [if_neg h0] at he; exact absurd he h0
  compl l r hl := by
    unfold rCode
    have e : ptB l = enc l.length ++ wri l := by unfold ptB; rw [if_pos ⟨hl.1, hl.2⟩]
    have hb : ∀ c ∈ ptB l, c < 256 := by rw [e]; exact put_byte l hl.2
    have hsz : (bstr (ptB l)).size ≤ 20000 := by rw [bstr_size]; have := ptB_len l hl.1; omega
    have e2 : enCode l = enTx (bstr (ptB l)) := by rw [enTx_of _ hb]; rfl
    have C : tkT 20000 (enTx (bstr (ptB l)) ++ r, 0) = (bstr (ptB l), (r, 0)) := (goodT 20000 (by omega)).compl _ r hsz
    rw [e2, C]
    simp only []
    rw [if_pos trivial, nl_bstr _ hb, gt_ptB l hl.1 hl.2]
  suff s := by
    obtain ⟨k, e⟩ := (goodT 20000 (by omega)).suff s
    unfold rCode
    split
    · exact ⟨k, e⟩
    · exact ⟨k, e⟩
  range s hs := by
    have R := (goodT 20000 (by omega)).range s hs
    unfold rCode
    split
    · exact gt_range _
    · exact R
  fit _ _ := trivial

section
variable {α : Type} {f : St → α × St} {en : α → List Nat} {V F : α → Prop}

theorem loop_sound (h : Good f en V F) (n : Nat) : ∀ (acc : List α) (s : St), By s → (rLoop f n acc s).2.2 = 0 → s.2 = 0 ∧ ∃ M, (rLoop f n acc s).1 = acc ++ M ∧ M.length = n ∧ s.1 = M.flatMap en ++ (rLoop f n acc s).2.1 := by
  induction n with
  | zero => intro acc s _ he; exact ⟨he, [], by simp [rLoop], rfl, by simp [rLoop]⟩
  | succ n ih =>
    intro acc s hs he
    unfold rLoop at he ⊢
    by_cases h0 : s.2 = 0
    · rw [if_neg (by simpa using h0)] at he ⊢
      obtain ⟨a1, M, a2, a3, a4⟩ := ih _ _ (h.by_ hs) he
      obtain ⟨b1, b2⟩ := h.sound s hs a1
      refine ⟨h0, (f s).1 :: M, by rw [a2]; simp, by simp [a3], ?_⟩
      rw [List.flatMap_cons, List.append_assoc, ← a4]
      exact b2
    · rw [if_pos h0] at he; exact absurd he h0

theorem loop_compl (h : Good f en V F) (l : List α) : ∀ (acc : List α) (r : List Nat), (∀ x ∈ l, V x) → rLoop f l.length acc (l.flatMap en ++ r, 0) = (acc ++ l, (r, 0)) := by
  induction l with
  | nil => intro acc r _; simp [rLoop]
  | cons x l ih =>
    intro acc r hv
    rw [List.length_cons, rLoop, if_neg (by simp), List.flatMap_cons, List.append_assoc, h.compl x _ (hv x (by simp))]
    simp only []
    rw [ih _ r (fun y hy => hv y (by simp [hy]))]
    simp

theorem loop_suff (h : Good f en V F) (n : Nat) : ∀ (acc : List α) (s : St), ∃ k, (rLoop f n acc s).2.1 = s.1.drop k := by
  induction n with
  | zero => intro acc s; exact ⟨0, rfl⟩
  | succ n ih =>
    intro acc s
    unfold rLoop
    split
    · exact ⟨0, rfl⟩
    · obtain ⟨k, e⟩ := h.suff s
      obtain ⟨j, e'⟩ := ih (acc ++ [(f s).1]) (f s).2
      exact ⟨k + j, by rw [e', e, List.drop_drop]⟩

theorem loop_range (h : Good f en V F) (n : Nat) : ∀ (acc : List α) (s : St), InR s.2 → InR (rLoop f n acc s).2.2 := by
  induction n with
  | zero => intro acc s hs; exact hs
  | succ n ih =>
    intro acc s hs
    unfold rLoop
    split
    · exact hs
    · exact ih _ _ (h.range s hs)

theorem loop_fit (h : Good f en V F) (n : Nat) : ∀ (acc : List α) (s : St), By s → (∀ x ∈ acc, F x) → ∀ x ∈ (rLoop f n acc s).1, F x := by
  induction n with
  | zero => intro acc s _ ha; exact ha
  | succ n ih =>
    intro acc s hs ha
    unfold rLoop
    split
    · exact ha
    · refine ih _ _ (h.by_ hs) (fun x hx => ?_)
      rcases List.mem_append.1 hx with hx | hx
      · exact ha x hx
      · simp at hx; subst hx; exact h.fit s hs

theorem goodL (h : Good f en V F) (most : Nat) (hm : most < 2 ^ 64) : Good (rL most f) (enL en) (fun l => l.length ≤ most ∧ ∀ x ∈ l, V x) (fun l => ∀ x ∈ l, F x) where
  stuck s hs := by
    unfold rL
    rw [show tkN (most : Int) s = (0, s) by unfold tkN; rw [if_neg hs]]
    rfl
  sound s hs he := by
    have G := goodN most hm
    unfold rL at he ⊢
    obtain ⟨a1, M, a2, a3, a4⟩ := loop_sound h _ _ _ (G.by_ hs) he
    obtain ⟨b1, b2⟩ := G.sound s hs a1
    refine ⟨b1, ?_⟩
    rw [a2, List.nil_append]
    unfold enL
    rw [a3, List.append_assoc, ← a4]
    exact b2
  compl l r hl := by
    unfold rL enL
    rw [List.append_assoc, (goodN most hm).compl _ _ hl.1]
    simp only []
    rw [loop_compl h l [] r hl.2, List.nil_append]
  suff s := by
    obtain ⟨k, e⟩ := (goodN most hm).suff s
    obtain ⟨j, e'⟩ := loop_suff h (tkN (most : Int) s).1 [] (tkN (most : Int) s).2
    exact ⟨k + j, by unfold rL; rw [e', e, List.drop_drop]⟩
  range s hs := loop_range h _ _ _ ((goodN most hm).range s hs)
  fit s hs := loop_fit h _ _ _ ((goodN most hm).by_ hs) (fun x hx => by simp at hx)
end

/-- A method, read. -/
def rMt (s : St) : Mt × St :=
  let x := pr (tkT 20) (pr (rL 6 rTy) (pr rTy (pr (tkN 32) (pr (tkN 64) (pr rCode (rL 16 rHd)))))) s
  (⟨x.1.1, x.1.2.1, x.1.2.2.1, (x.1.2.2.2.1 : Int), (x.1.2.2.2.2.1 : Int), x.1.2.2.2.2.2.1, x.1.2.2.2.2.2.2⟩, x.2)

theorem goodMt : Good rMt enMt VMt FitM :=
  ((good20.pair ((goodL goodTy 6 (by omega)).pair (goodTy.pair ((goodN 32 (by omega)).pair ((goodN 64 (by omega)).pair (goodCode.pair (goodL goodHd 16 (by omega)))))))).map
    (fun x => (⟨x.1, x.2.1, x.2.2.1, (x.2.2.2.1 : Int), (x.2.2.2.2.1 : Int), x.2.2.2.2.2.1, x.2.2.2.2.2.2⟩ : Mt)) (fun m => (m.name, (m.params, (m.ret, (m.lo.toNat, (m.st.toNat, (m.code, m.hands))))))) (fun x => by
      obtain ⟨a, b, c, d, e, f, g⟩ := x
      simp) rMt (fun _ => rfl) enMt (fun m => by unfold enMt enCode; rfl)).weaken
    (fun m hm => by
      obtain ⟨nm, ps, rt, lo, st, cd, hd⟩ := m
      have h1 := hm.lo
      have h2 := hm.st
      simp only [] at h1 h2
      refine ⟨⟨hm.name, ⟨hm.pl, hm.params⟩, hm.ret, by simp only []; omega, by simp only []; omega, ⟨hm.cl, hm.code⟩, ⟨hm.hl, hm.hands⟩⟩, ?_⟩
      simp only [Mt.mk.injEq, true_and, and_true]
      omega)
    (fun m hm => ⟨by have := hm.1; unfold fitS; simp only [] at this; omega, by have := hm.2.2.1; unfold fitS; simp only [] at this; omega, fun t ht => by have := hm.2.1 t ht; unfold fitS; omega⟩)

/-- A class, read behind the mark. -/
def rCl (s : St) : Cl × St :=
  let x := pr (tkT 20) (pr (tkT 20) (pr (rL 128 rCs) (pr (rL 8 rFd) (rL 12 rMt)))) s
  (⟨x.1.1, x.1.2.1, x.1.2.2.1, x.1.2.2.2.1, x.1.2.2.2.2⟩, x.2)

def enBody (c : Cl) : List Nat := enTx c.name ++ (enTx c.super ++ (enL enCs c.pool ++ (enL enFd c.fields ++ enL enMt c.methods)))

theorem goodCl : Good rCl enBody (fun c => VCl c ∧ FitK c) FitK :=
  ((good20.pair (good20.pair ((goodL goodCs 128 (by omega)).pair ((goodL goodFd 8 (by omega)).pair (goodL goodMt 12 (by omega)))))).map
    (fun x => (⟨x.1, x.2.1, x.2.2.1, x.2.2.2.1, x.2.2.2.2⟩ : Cl)) (fun c => (c.name, (c.super, (c.pool, (c.fields, c.methods))))) (fun x => rfl) rCl (fun _ => rfl) enBody (fun m => by unfold enBody; rfl)).weaken
    (fun c hc => ⟨⟨hc.1.name, hc.1.super, ⟨hc.1.pl, fun x hx => ⟨hc.1.pool x hx, hc.2.pool x hx⟩⟩, ⟨hc.1.fl, hc.1.fields⟩, ⟨hc.1.ml, hc.1.methods⟩⟩, rfl⟩)
    (fun c hc => ⟨⟨by have := hc.1; unfold fitS; simp only [] at this; omega, by have := hc.2.1; unfold fitS; simp only [] at this; omega, fun x hx => ⟨by have := (hc.2.2.1 x hx).c; unfold fitS; omega, by have := (hc.2.2.1 x hx).m; unfold fitS; omega⟩,
      fun x hx => ⟨by have := (hc.2.2.2.1 x hx).1; unfold fitS; omega, by have := (hc.2.2.2.1 x hx).2; unfold fitS; omega⟩, hc.2.2.2.2⟩, fun x hx => (hc.2.2.1 x hx).fit⟩)

/-! ### The whole -/
theorem goodM1 (c : Nat) : Good (fun s => ((), mk1 c s)) (fun _ => [c]) (fun _ => True) (fun _ => True) where
  stuck s hs := by
    show mk1 c s = s
    unfold mk1
    rw [tkB_stuck hs]
    simp only []
    split
    · rfl
    · rw [thn_ne hs]
  sound s hs he := by
    have he : (mk1 c s).2 = 0 := he
    show s.2 = 0 ∧ s.1 = [c] ++ (mk1 c s).1
    unfold mk1 at he ⊢
    by_cases h : (tkB s).1 = c
    · rw [if_pos h] at he ⊢
      have := goodB.sound s hs he
      rw [h] at this
      exact this
    · rw [if_neg h] at he
      by_cases h0 : (tkB s).2.2 = 0
      · rw [h0] at he; simp [thn] at he
      · simp only [] at he; rw [thn_ne h0] at he; exact absurd he h0
  compl x r _ := by
    show ((), mk1 c ([c] ++ r, 0)) = _
    unfold mk1
    rw [goodB.compl c r trivial, if_pos rfl]
  suff s := by
    show ∃ k, (mk1 c s).1 = _
    unfold mk1
    split
    · exact goodB.suff s
    · exact goodB.suff s
  range s hs := by
    show InR (mk1 c s).2
    unfold mk1
    split
    · exact goodB.range s hs
    · exact thn_range (goodB.range s hs) r31
  fit _ _ := trivial

/-- What is behind the mark and the class. -/
def rAll (b : List Nat) : Cl × St := let r := rCl (rMark (b, 0)); (r.1, tkEnd r.2)

/-- What Decode tells: the class, the error. -/
def dcE (b : List Nat) : Nat := if 20000 < b.length then 32 else if (rAll b).2.2 = 0 then chk (rAll b).1 else (rAll b).2.2
def zCl : Cl := ⟨e0, e0, [], [], []⟩
def dcC (b : List Nat) : Cl := if dcE b = 0 then (rAll b).1 else zCl

def pMark (s : St) : (Unit × (Unit × (Unit × (Unit × Unit)))) × St := pr (fun s => ((), mk1 76 s)) (pr (fun s => ((), mk1 79 s)) (pr (fun s => ((), mk1 79 s)) (pr (fun s => ((), mk1 77 s)) (fun s => ((), mk1 1 s))))) s
theorem goodMark : Good pMark (fun _ => [76, 79, 79, 77, 1]) (fun _ => True) (fun _ => True) :=
  ((goodM1 76).pair ((goodM1 79).pair ((goodM1 79).pair ((goodM1 77).pair (goodM1 1))))).weaken (fun _ _ => ⟨trivial, trivial, trivial, trivial, trivial⟩) (fun _ _ => trivial)
theorem pMark_eq (s : St) : (pMark s).2 = rMark s := by simp only [pMark, pr, rMark]

theorem dec_sound (b : List Nat) (hb : ∀ c ∈ b, c < 256) (h : dcE b = 0) : enCl (dcC b) = b ∧ chk (dcC b) = 0 ∧ FitK (dcC b) ∧ b.length ≤ 20000 := by
  have e : dcC b = (rAll b).1 := by unfold dcC; rw [if_pos h]
  rw [e]
  unfold dcE at h
  by_cases h1 : 20000 < b.length
  · rw [if_pos h1] at h; simp at h
  rw [if_neg h1] at h
  by_cases h2 : (rAll b).2.2 = 0
  · rw [if_pos h2] at h
    have hB : By (b, 0) := hb
    have hM : By (rMark (b, 0)) := by have := goodMark.by_ hB; rwa [pMark_eq] at this
    unfold rAll at h h2 ⊢
    simp only [] at h h2 ⊢
    have h3 : (rCl (rMark (b, 0))).2.2 = 0 ∧ (rCl (rMark (b, 0))).2.1 = [] := by
      unfold tkEnd at h2
      simp only [] at h2
      by_cases hl : 0 < (rCl (rMark (b, 0))).2.1.length
      · rw [if_pos hl] at h2
        by_cases h0 : (rCl (rMark (b, 0))).2.2 = 0
        · rw [h0] at h2; simp [thn] at h2
        · rw [thn_ne h0] at h2; exact absurd h2 h0
      · rw [if_neg hl] at h2
        exact ⟨h2, List.eq_nil_of_length_eq_zero (by omega)⟩
    obtain ⟨a1, a2⟩ := goodCl.sound _ hM h3.1
    have G := goodMark.sound (b, 0) hB
    rw [pMark_eq] at G
    obtain ⟨_, b2⟩ := G a1
    simp only [] at b2
    refine ⟨?_, h, goodCl.fit _ hM, by omega⟩
    rw [h3.2, List.append_nil] at a2
    generalize rMark (b, 0) = m at a2 b2 ⊢
    generalize (rCl m).1 = c at a2 ⊢
    rw [b2, a2]
    rfl
  · rw [if_neg h2] at h; exact absurd h h2

theorem dec_compl (c : Cl) (hc : chk c = 0) (hf : FitK c) (hl : (enCl c).length ≤ 20000) : dcE (enCl c) = 0 ∧ dcC (enCl c) = c := by
  have hM : rMark (enCl c, 0) = (enBody c, 0) := by
    have := goodMark.compl ((), (), (), (), ()) (enBody c) trivial
    have e : enCl c = [76, 79, 79, 77, 1] ++ enBody c := rfl
    rw [e, ← pMark_eq, this]
  have hR : rCl (enBody c, 0) = (c, ([], 0)) := by
    have := goodCl.compl c [] ⟨vcl c hc, hf⟩
    rwa [List.append_nil] at this
  have hA : rAll (enCl c) = (c, ([], 0)) := by
    unfold rAll
    simp only []
    rw [hM, hR]
    rfl
  have h1 : dcE (enCl c) = 0 := by
    unfold dcE
    rw [if_neg (by omega), hA, if_pos rfl]
    exact hc
  refine ⟨h1, ?_⟩
  unfold dcC
  rw [if_pos h1, hA]

theorem each_range {α : Type} (most : Nat) (ask : α → List α → Nat) (h : ∀ x a, InR (ask x a)) (l : List α) : InR (eachE most ask l) := by
  have key : ∀ (l a : List α), InR (firstE ask a l) := by
    intro l
    induction l with
    | nil => intro a; exact .inl rfl
    | cons x r ih =>
      intro a
      unfold firstE
      split
      · exact h x a
      · exact ih _
  unfold eachE
  split
  · exact .inr ⟨by omega, by omega⟩
  · exact key l []

theorem ir (n : Nat) (h : n = 0 ∨ (30 ≤ n ∧ n ≤ 54)) : InR n := h

theorem chk_range (c : Cl) : InR (chk c) := by
  have cs : ∀ x, InR (ckCs x) := by intro x; unfold ckCs; repeat (first | (split; skip) | (exact ir _ (by omega)))
  have fd : ∀ x a, InR (ckFd x a) := by intro x a; unfold ckFd; repeat (first | (split; skip) | (exact ir _ (by omega)))
  have ty : ∀ x a, InR (ckTy x a) := by intro x a; unfold ckTy; repeat (first | (split; skip) | (exact ir _ (by omega)))
  have ins : ∀ p lo n x, InR (ckIns p lo n x) := by intro p lo n x; unfold ckIns; repeat (first | (split; skip) | (exact ir _ (by omega)))
  have hd : ∀ p n x, InR (ckHd p n x) := by intro p n x; unfold ckHd; repeat (first | (split; skip) | (exact ir _ (by omega)))
  have face : ∀ m a, InR (ckFace m a) := by
    intro m a
    have := each_range 6 ckTy ty m.params
    unfold ckFace
    repeat (first | exact this | (split; skip) | (exact ir _ (by omega)))
  have body : ∀ p m, InR (ckBody p m) := by
    intro p m
    have e1 := each_range 200 (fun x _ => ckIns p m.lo m.code.length x) (fun x _ => ins _ _ _ x) m.code
    have e2 := each_range 16 (fun h _ => ckHd p m.code.length h) (fun x _ => hd _ _ x) m.hands
    unfold ckBody
    repeat (first | exact e1 | exact e2 | (split; skip) | (exact ir _ (by omega)))
  have mt : ∀ p m a, InR (ckMt p m a) := by intro p m a; unfold ckMt; split; exact face m a; exact body p m
  have e1 := each_range 128 (fun x _ => ckCs x) (fun x _ => cs x) c.pool
  have e2 := each_range 8 ckFd fd c.fields
  have e3 := each_range 12 (ckMt c.pool) (mt c.pool) c.methods
  unfold chk
  repeat (first | exact e1 | exact e2 | exact e3 | (split; skip) | (exact ir _ (by omega)))

theorem dec_range (b : List Nat) : InR (dcE b) := by
  unfold dcE
  split
  · exact ir _ (by omega)
  · split
    · exact chk_range _
    · unfold rAll
      simp only []
      have h1 : InR (rMark (b, 0)).2 := by
        have := goodMark.range (b, 0) (.inl rfl)
        rwa [pMark_eq] at this
      have h2 := goodCl.range _ h1
      unfold tkEnd
      simp only []
      split
      · exact thn_range h2 r31
      · exact h2
end Go.Proofs.YthncdbobjeeeaaaGreatDoor
