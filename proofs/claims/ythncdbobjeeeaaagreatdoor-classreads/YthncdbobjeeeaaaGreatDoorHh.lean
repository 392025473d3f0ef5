/- What the document's reader reads: without memory; and its memory. -/
import Derived.Test.YthncdbobjeeeaaaGreatDoorHg
import Derived.Test.YthncdbobjeeeaaaGreatDoorGo
namespace Go.Proofs.YthncdbobjeeeaaaGreatDoor
open Go.ChangeShapes Go.WideShapes Go.ChangeAt Go.RowKit

abbrev Sb := List Nat × Bool
/-- So many more read, behind these, until one fails. -/
def dLoop {α : Type} (f : Sb → α × Sb) : Nat → List α → Sb → List α × Sb
  | 0, acc, s => (acc, s)
  | n + 1, acc, s => if s.2 = true then (acc, s) else dLoop f n (acc ++ [(f s).1]) (f s).2
def dHd (s : Sb) : Hd × Sb :=
  (⟨((dN 999 s).1 : Int), ((dN 999 (dN 999 s).2).1 : Int), ((dN 999 (dN 999 (dN 999 s).2).2).1 : Int), ((dN 999 (dN 999 (dN 999 (dN 999 s).2).2).2).1 : Int) - 1, ((dN 999 (dN 999 (dN 999 (dN 999 (dN 999 s).2).2).2).2).1 : Int)⟩, (dN 999 (dN 999 (dN 999 (dN 999 (dN 999 s).2).2).2).2).2)
def dFd (s : Sb) : Fd × Sb :=
  (⟨(dX 20 s).1, (dTy (dX 20 s).2).1, decide ((dB (dTy (dX 20 s).2).2).1 = 1)⟩, ((dB (dTy (dX 20 s).2).2).2.1, (dB (dTy (dX 20 s).2).2).2.2 || decide (1 < (dB (dTy (dX 20 s).2).2).1)))
/-- A method's beginning: name, parameters, what it returns, locals, stack, how many bytes its code has. -/
def dM1 (s : Sb) : (ByteArray × List Ty × Ty × Nat × Nat × Nat) × Sb :=
  let a := dX 20 s
  let n := dN 6 a.2
  let ps := dLoop dTy n.1 [] n.2
  let rt := dTy ps.2
  let lo := dN 32 rt.2
  let st := dN 64 lo.2
  let k := dN (st.2.1.length : Int) st.2
  ((a.1, ps.1, rt.1, lo.1, st.1, k.1), k.2)
/-- Its end: the code of k bytes, the handlers. -/
def dM2 (k : Nat) (s : Sb) : (List (Int × Int) × List Hd) × Sb :=
  let g := gt (s.1.take k)
  let nh := dN 16 (s.1.drop k, s.2 || decide (g.2 ≠ 0))
  let hs := dLoop dHd nh.1 [] nh.2
  ((g.1, hs.1), hs.2)
def dMt (s : Sb) : Mt × Sb :=
  let m := dM1 s
  if m.2.2 = true ∨ m.2.1.length < m.1.2.2.2.2.2 then (⟨m.1.1, m.1.2.1, m.1.2.2.1, (m.1.2.2.2.1 : Int), (m.1.2.2.2.2.1 : Int), [], []⟩, (m.2.1, true))
  else (⟨m.1.1, m.1.2.1, m.1.2.2.1, (m.1.2.2.2.1 : Int), (m.1.2.2.2.2.1 : Int), (dM2 m.1.2.2.2.2.2 m.2).1.1, (dM2 m.1.2.2.2.2.2 m.2).1.2⟩, (dM2 m.1.2.2.2.2.2 m.2).2)
def dL {α : Type} (most : Int) (f : Sb → α × Sb) (s : Sb) : List α × Sb := dLoop f (dN most s).1 [] (dN most s).2
def dCl (s : Sb) : Cl × Sb :=
  let a := dX 20 s
  let b := dX 20 a.2
  let ps := dL 128 dCs b.2
  let fs := dL 8 dFd ps.2
  let ms := dL 12 dMt fs.2
  (⟨a.1, b.1, ps.1, fs.1, ms.1⟩, ms.2)

/-! ### What was written is read -/
theorem dB_c (n : Nat) (r : List Nat) : dB ([n] ++ r, false) = (n, (r, false)) := by
  have e : dB ([n] ++ r, false) = ((tkB ([n] ++ r, 0)).1, ((tkB ([n] ++ r, 0)).2.1, false || decide ((tkB ([n] ++ r, 0)).2.2 ≠ 0))) := rfl
  rw [e, goodB.compl n r trivial]
  rfl
theorem dX_c (s : ByteArray) (r : List Nat) (h : s.size ≤ 20) : dX 20 (enTx s ++ r, false) = (s, (r, false)) := by
  have e : dX 20 (enTx s ++ r, false) = ((tkT 20 (enTx s ++ r, 0)).1, ((tkT 20 (enTx s ++ r, 0)).2.1, false || decide ((tkT 20 (enTx s ++ r, 0)).2.2 ≠ 0))) := rfl
  rw [e, good20.compl s r h]
  rfl
theorem dN_c (most n : Nat) (r : List Nat) (hm : most < 2 ^ 64) (h : n ≤ most) : dN (most : Int) (enc n ++ r, false) = (n, (r, false)) := by
  have e : dN (most : Int) (enc n ++ r, false) = ((tkN (most : Int) (enc n ++ r, 0)).1, ((tkN (most : Int) (enc n ++ r, 0)).2.1, false || decide ((tkN (most : Int) (enc n ++ r, 0)).2.2 ≠ 0))) := rfl
  rw [e, (goodN most hm).compl n r h]
  rfl
theorem dI_c (n : Int) (r : List Nat) (h : -9223372036854775808 ≤ n ∧ n ≤ 9223372036854775807) : dI (enc (fo n) ++ r, false) = (n, (r, false)) := by
  have e : dI (enc (fo n) ++ r, false) = ((tkI (enc (fo n) ++ r, 0)).1, ((tkI (enc (fo n) ++ r, 0)).2.1, false || decide ((tkI (enc (fo n) ++ r, 0)).2.2 ≠ 0))) := rfl
  rw [e, goodI.compl n r h]
  rfl
theorem dC_c (a b : Nat) (r : List Nat) (ha : a < 2 ^ 64) (hb : b < 2 ^ 64) : dC ((le a 8 ++ le b 8) ++ r, false) = ((a, b), (r, false)) := by
  have e : dC ((le a 8 ++ le b 8) ++ r, false) = ((tkC ((le a 8 ++ le b 8) ++ r, 0)).1, ((tkC ((le a 8 ++ le b 8) ++ r, 0)).2.1, false || decide ((tkC ((le a 8 ++ le b 8) ++ r, 0)).2.2 ≠ 0))) := rfl
  rw [e, goodC.compl (a, b) r ⟨ha, hb⟩]
  rfl

theorem dTy_c (t : Ty) (r : List Nat) (h : VTy t) : dTy (enTy t ++ r, false) = (t, (r, false)) := by
  obtain ⟨k, c⟩ := t
  obtain ⟨h1, h2, h3, h4⟩ := h
  simp only [] at h1 h2 h3 h4
  obtain ⟨n, rfl⟩ : ∃ n : Nat, k = (n : Int) := ⟨k.toNat, by omega⟩
  have e : enTy ⟨(n : Int), c⟩ ++ r = [n] ++ ((if (n : Int) = 4 then enTx c else []) ++ r) := by unfold enTy; simp
  unfold dTy
  rw [e, dB_c]
  simp only []
  by_cases hn : n = 4
  · subst hn
    rw [if_pos rfl, if_pos (by decide), dX_c c r h3]
    rfl
  · rw [if_neg hn, if_neg (by omega), List.nil_append, h4 (by omega)]

theorem dCs_c (x : Cs) (r : List Nat) (hv : VCs x) (hf : FitCs x) : dCs (enCs x ++ r, false) = (x, (r, false)) := by
  obtain ⟨k, n, re, im, c, m⟩ := x
  obtain ⟨v1, v2, v3, v4, v5, v6, v7, v8⟩ := hv
  obtain ⟨f1, f2, f3, f4⟩ := hf
  simp only [] at *
  obtain ⟨j, rfl⟩ : ∃ j : Nat, k = (j : Int) := ⟨k.toNat, by omega⟩
  have e : enCs ⟨(j : Int), n, re, im, c, m⟩ ++ r = [j] ++ ((if (j : Int) = 1 then enc (fo n) else if (j : Int) = 2 then le re 8 ++ le im 8 else if (j : Int) = 3 then enTx c else if (j : Int) = 4 ∨ (j : Int) = 5 then enTx c ++ enTx m else []) ++ r) := by
    unfold enCs
    simp
  unfold dCs
  rw [e, dB_c]
  simp only []
  rcases (show j = 1 ∨ j = 2 ∨ j = 3 ∨ j = 4 ∨ j = 5 by omega) with rfl | rfl | rfl | rfl | rfl
  · rw [if_pos rfl, if_pos (by decide), dI_c n r ⟨f1, f2⟩, (v6 (by decide)).1, (v6 (by decide)).2, v7 (by decide), v8 (by decide)]
    rfl
  · rw [if_neg (by decide), if_pos rfl, if_neg (by decide), if_pos (by decide), dC_c re im r f3 f4, v5 (by decide), v7 (by decide), v8 (by decide)]
    rfl
  · rw [if_neg (by decide), if_neg (by decide), if_pos rfl, if_neg (by decide), if_neg (by decide), if_pos (by decide), dX_c c r v3, v5 (by decide), (v6 (by decide)).1, (v6 (by decide)).2, v8 (by decide)]
    rfl
  · rw [if_neg (by decide), if_neg (by decide), if_neg (by decide), if_neg (by decide), if_neg (by decide), if_neg (by decide), if_pos (by decide), List.append_assoc, dX_c c _ v3]
    simp only []
    rw [dX_c m r v4, v5 (by decide), (v6 (by decide)).1, (v6 (by decide)).2]
  · rw [if_neg (by decide), if_neg (by decide), if_neg (by decide), if_neg (by decide), if_neg (by decide), if_neg (by decide), if_pos (by decide), List.append_assoc, dX_c c _ v3]
    simp only []
    rw [dX_c m r v4, v5 (by decide), (v6 (by decide)).1, (v6 (by decide)).2]

theorem dFd_c (x : Fd) (r : List Nat) (h : VFd x) : dFd (enFd x ++ r, false) = (x, (r, false)) := by
  obtain ⟨nm, ty, vol⟩ := x
  unfold dFd enFd
  simp only [List.append_assoc]
  rw [dX_c nm _ h.name]
  simp only []
  rw [dTy_c ty _ h.ty]
  simp only []
  rw [dB_c]
  cases vol <;> rfl

theorem dHd_c (x : Hd) (r : List Nat) (h : VHd x) : dHd (enHd x ++ r, false) = (x, (r, false)) := by
  obtain ⟨fr, to, tg, cl, dp⟩ := x
  obtain ⟨h1, h2, h3, h4, h5⟩ := h
  simp only [] at h1 h2 h3 h4 h5
  have N := fun (n : Nat) (r : List Nat) (hn : n ≤ 999) => dN_c 999 n r (by omega) hn
  have N : ∀ (n : Nat) (r : List Nat), n ≤ 999 → dN 999 (enc n ++ r, false) = (n, (r, false)) := N
  unfold dHd enHd
  simp only [List.append_assoc]
  rw [N fr.toNat _ (by omega)]
  simp only []
  rw [N to.toNat _ (by omega)]
  simp only []
  rw [N tg.toNat _ (by omega)]
  simp only []
  rw [N (cl + 1).toNat _ (by omega)]
  simp only []
  rw [N dp.toNat _ (by omega)]
  simp only [Prod.mk.injEq, Hd.mk.injEq, and_true]
  refine ⟨by omega, by omega, by omega, by omega, by omega⟩

theorem dLoop_c {α : Type} (f : Sb → α × Sb) (en : α → List Nat) (l : List α) : ∀ (acc : List α) (r : List Nat), (∀ x ∈ l, ∀ r, f (en x ++ r, false) = (x, (r, false))) → dLoop f l.length acc (l.flatMap en ++ r, false) = (acc ++ l, (r, false)) := by
  induction l with
  | nil => intro acc r _; simp [dLoop]
  | cons x l ih =>
    intro acc r hf
    rw [List.length_cons, dLoop, if_neg (by simp), List.flatMap_cons, List.append_assoc, hf x (by simp)]
    simp only []
    rw [ih _ r (fun y hy => hf y (by simp [hy]))]
    simp
theorem dL_c {α : Type} (f : Sb → α × Sb) (en : α → List Nat) (most : Nat) (hm : most < 2 ^ 64) (l : List α) (r : List Nat) (hl : l.length ≤ most) (hf : ∀ x ∈ l, ∀ r, f (en x ++ r, false) = (x, (r, false))) : dL (most : Int) f (enL en l ++ r, false) = (l, (r, false)) := by
  unfold dL enL
  rw [List.append_assoc, dN_c most l.length _ hm hl]
  simp only []
  rw [dLoop_c f en l [] r hf]
  simp

theorem dMt_c (m : Mt) (r : List Nat) (h : VMt m) : dMt (enMt m ++ r, false) = (m, (r, false)) := by
  obtain ⟨nm, ps, rt, lo, st, cd, hd⟩ := m
  have hlo := h.lo
  have hst := h.st
  simp only [] at hlo hst
  have hpt := ptB_len cd h.cl
  have N6 := fun (n : Nat) (r : List Nat) (hn : n ≤ 6) => dN_c 6 n r (by omega) hn
  have N6 : ∀ (n : Nat) (r : List Nat), n ≤ 6 → dN 6 (enc n ++ r, false) = (n, (r, false)) := N6
  have N32 := fun (n : Nat) (r : List Nat) (hn : n ≤ 32) => dN_c 32 n r (by omega) hn
  have N32 : ∀ (n : Nat) (r : List Nat), n ≤ 32 → dN 32 (enc n ++ r, false) = (n, (r, false)) := N32
  have N64 := fun (n : Nat) (r : List Nat) (hn : n ≤ 64) => dN_c 64 n r (by omega) hn
  have N64 : ∀ (n : Nat) (r : List Nat), n ≤ 64 → dN 64 (enc n ++ r, false) = (n, (r, false)) := N64
  have N16 := fun (n : Nat) (r : List Nat) (hn : n ≤ 16) => dN_c 16 n r (by omega) hn
  have N16 : ∀ (n : Nat) (r : List Nat), n ≤ 16 → dN 16 (enc n ++ r, false) = (n, (r, false)) := N16
  have e : enMt ⟨nm, ps, rt, lo, st, cd, hd⟩ ++ r = enTx nm ++ (enc ps.length ++ (ps.flatMap enTy ++ (enTy rt ++ (enc lo.toNat ++ (enc st.toNat ++ (enc (ptB cd).length ++ (ptB cd ++ (enc hd.length ++ (hd.flatMap enHd ++ r))))))))) := by
    unfold enMt enL
    simp only [List.append_assoc]
  have M1 : dM1 (enMt ⟨nm, ps, rt, lo, st, cd, hd⟩ ++ r, false) = ((nm, ps, rt, lo.toNat, st.toNat, (ptB cd).length), (ptB cd ++ (enc hd.length ++ (hd.flatMap enHd ++ r)), false)) := by
    unfold dM1
    rw [e, dX_c nm _ h.name]
    simp only []
    rw [N6 ps.length _ h.pl]
    simp only []
    rw [dLoop_c dTy enTy ps [] _ (fun t ht r => dTy_c t r (h.params t ht))]
    simp only [List.nil_append]
    rw [dTy_c rt _ h.ret]
    simp only []
    rw [N32 lo.toNat _ (by omega)]
    simp only []
    rw [N64 st.toNat _ (by omega)]
    simp only []
    generalize hB : enc hd.length ++ (hd.flatMap enHd ++ r) = X
    have hk : (ptB cd).length ≤ (enc (ptB cd).length ++ (ptB cd ++ X)).length := by simp only [List.length_append]; omega
    have K : dN ((enc (ptB cd).length ++ (ptB cd ++ X)).length : Int) (enc (ptB cd).length ++ (ptB cd ++ X), false) = ((ptB cd).length, (ptB cd ++ X, false)) := by
      have e : dN ((enc (ptB cd).length ++ (ptB cd ++ X)).length : Int) (enc (ptB cd).length ++ (ptB cd ++ X), false) = ((ct (enc (ptB cd).length ++ (ptB cd ++ X)) ((enc (ptB cd).length ++ (ptB cd ++ X)).length : Int)).1, ((enc (ptB cd).length ++ (ptB cd ++ X)).drop (ct (enc (ptB cd).length ++ (ptB cd ++ X)) ((enc (ptB cd).length ++ (ptB cd ++ X)).length : Int)).2.2, false || decide ((ct (enc (ptB cd).length ++ (ptB cd ++ X)) ((enc (ptB cd).length ++ (ptB cd ++ X)).length : Int)).2.1 ≠ 0))) := rfl
      rw [e, ct_fits (ptB cd).length (ptB cd ++ X) _ (by omega) (by omega)]
      simp
    rw [K]
  have M2 : dM2 (ptB cd).length (ptB cd ++ (enc hd.length ++ (hd.flatMap enHd ++ r)), false) = ((cd, hd), (r, false)) := by
    unfold dM2
    simp only []
    rw [List.take_left' rfl, List.drop_left' rfl, gt_ptB cd h.cl h.code]
    simp only []
    rw [show (false || decide ((0 : Nat) ≠ 0)) = false from rfl, N16 hd.length _ h.hl]
    simp only []
    rw [dLoop_c dHd enHd hd [] r (fun x hx r => dHd_c x r (h.hands x hx))]
    simp
  unfold dMt
  rw [M1]
  simp only []
  rw [if_neg (by simp), M2]
  simp only [Prod.mk.injEq, Mt.mk.injEq, true_and, and_true]
  omega

theorem dCl_c (c : Cl) (r : List Nat) (h : VCl c) (hf : FitK c) : dCl (enBody c ++ r, false) = (c, (r, false)) := by
  obtain ⟨nm, su, po, fs, ms⟩ := c
  have L1 := dL_c dCs enCs 128 (by omega) po
  have L2 := dL_c dFd enFd 8 (by omega) fs
  have L3 := dL_c dMt enMt 12 (by omega) ms
  have L1 : ∀ r, po.length ≤ 128 → (∀ x ∈ po, ∀ r, dCs (enCs x ++ r, false) = (x, (r, false))) → dL 128 dCs (enL enCs po ++ r, false) = (po, (r, false)) := L1
  have L2 : ∀ r, fs.length ≤ 8 → (∀ x ∈ fs, ∀ r, dFd (enFd x ++ r, false) = (x, (r, false))) → dL 8 dFd (enL enFd fs ++ r, false) = (fs, (r, false)) := L2
  have L3 : ∀ r, ms.length ≤ 12 → (∀ x ∈ ms, ∀ r, dMt (enMt x ++ r, false) = (x, (r, false))) → dL 12 dMt (enL enMt ms ++ r, false) = (ms, (r, false)) := L3
  unfold dCl enBody
  simp only [List.append_assoc]
  rw [dX_c nm _ h.name]
  simp only []
  rw [dX_c su _ h.super]
  simp only []
  rw [L1 _ h.pl (fun x hx r => dCs_c x r (h.pool x hx) (hf.pool x hx))]
  simp only []
  rw [L2 _ h.fl (fun x hx r => dFd_c x r (h.fields x hx))]
  simp only []
  rw [L3 _ h.ml (fun x hx r => dMt_c x r (h.methods x hx))]

/-! ### What is read fits -/
theorem by_drop {l : List Nat} (h : ∀ c ∈ l, c < 256) (k : Nat) : ∀ c ∈ l.drop k, c < 256 := fun c hc => h c (List.mem_of_mem_drop hc)
theorem dX_fit (s : Sb) (h : ∀ c ∈ s.1, c < 256) : (dX 20 s).1.size ≤ 20 := by
  unfold dX
  simp only []
  rw [bstr_size]
  exact tx_len s.1 20 h
theorem dTy_fit (s : Sb) (h : ∀ c ∈ s.1, c < 256) : (dTy s).1.c.size ≤ 20 := by
  unfold dTy
  split
  · exact dX_fit _ (by_drop h _)
  · simp [e0_size]
theorem dN_fit (most : Nat) (s : Sb) : (dN (most : Int) s).1 ≤ most := tkN_le most (s.1, 0)
theorem dI_fit (s : Sb) (h : ∀ c ∈ s.1, c < 256) : -9223372036854775808 ≤ (dI s).1 ∧ (dI s).1 ≤ 9223372036854775807 := goodI.fit (s.1, 0) h
theorem dC_fit (s : Sb) (h : ∀ c ∈ s.1, c < 256) : (dC s).1.1 < 2 ^ 64 ∧ (dC s).1.2 < 2 ^ 64 := goodC.fit (s.1, 0) h
theorem dCs_fit (s : Sb) (h : ∀ c ∈ s.1, c < 256) : RCs (dCs s).1 := by
  have hB : ∀ c ∈ (dB s).2.1, c < 256 := by_drop h _
  unfold dCs
  split
  · have := dI_fit _ hB
    exact ⟨by simp [e0_size], by simp [e0_size], this.1, this.2, by simp, by simp⟩
  split
  · have := dC_fit _ hB
    exact ⟨by simp [e0_size], by simp [e0_size], by simp, by simp, this.1, this.2⟩
  split
  · exact ⟨dX_fit _ hB, by simp [e0_size], by simp, by simp, by simp, by simp⟩
  · exact ⟨dX_fit _ hB, dX_fit _ (by_drop hB _), by simp, by simp, by simp, by simp⟩
end Go.Proofs.YthncdbobjeeeaaaGreatDoor

/- The memory of the document's reader: a box that is filled, rows that grow, beside the reader. -/
namespace Go.Proofs.YthncdbobjeeeaaaGreatDoor
open Go.ChangeShapes Go.WideShapes Go.ChangeAt Go.RowKit

theorem step_apdH {α : Type} {K : El α} (hK : K.Ok) (w : World) {ops : Array Oper} {o : Oper} {a : Act} {K2 : Act → World → Prop} {Q : Exit → Act → World → Prop} {E : Prop}
    (hg : o.guard = none) (ht : o.type = K.t) (s x : Operand) (hop : o.op = Op.call { callee := Callee.builtin Builtin.append, args := #[s, x], argTypes := #[K.t, K.t] })
    (v : Value) (l : List α) (hs : a.eval s = v) (hown : OwnG K w v l) (xv : Value) (hx : a.eval x = xv) (m : List α) (hsrc : Src Tryz.prog K.n K.t xv m.length (cg K m) w)
    (hm0 : m ≠ []) (hb : l.length + m.length ≤ 1000000)
    (hK' : ∀ v' w', OwnG K w' v' (l ++ m) → Sp no v w v' w' → K2 (a.put o.dst v') w') :
    if Region.wanted o (yielded ops a.tmps) = true then Oper.wp Tryz.prog o a w K2 Q else E := by
  have hw : Region.wanted o (yielded ops a.tmps) = true := by simp [Region.wanted, hg]
  rw [if_pos hw]
  obtain ⟨v', w', hrun, r1, r2⟩ := run_apdG hK w v l hown xv m hsrc hm0 hb
  unfold Oper.wp
  simp [execOp, hop, ht, resolve, invoke, builtin, hs, hx, hrun, Result.andThen]
  exact hK' v' w' r1 r2


theorem Rs.beside {w w' : World} {p q : Nat} {l : List Nat} (h : Rs 78 w q l) (hf : Fr (fun k => k = p) w w') (hne : p ≠ q) (hp : ∀ k c, w.cell? k = some (.int .u8 c) → k.block ≠ p) : Rs 78 w' q l := by
  obtain ⟨b, off, cap, h1, h2, h3, h4⟩ := h
  exact ⟨b, off, cap, hf.heap h1 (fun e => hne e.symm), h2, h3, fun i c hi => hf.cell (h4 i c hi) (fun e => hp _ _ (h4 i c hi) e)⟩
theorem DS.nob {w : World} {p q : Nat} {s : Sb} (h : DS w p q s) : ∀ k c, w.cell? k = some (.int .u8 c) → k.block ≠ p := fun k c hk e => by
  obtain ⟨cur, t, fz, hg, hm⟩ := cell_mem hk
  rw [e, h.blk] at hg
  simp only [Option.some.injEq, Obj.cells.injEq] at hg
  obtain ⟨rfl, _, _⟩ := hg
  simp at hm

theorem dNumR_any (w : World) (p q : Nat) (s : List Nat × Bool) (h : DS w p q s) (most : Int) (hm1 : -9223372036854775808 ≤ most) (hm2 : most ≤ 9223372036854775807) :
    Calls Tryz.prog 27 #[.pointer (some ⟨p, 0, none⟩), .int .i64 most] w fun x w' => x = .returned (.int .i64 ((dN most s).1 : Int)) ∧ DS w' p q (dN most s).2 ∧ Fr (PQ p q) w w' ∧ ((dN most s).2.2 = false → Rs 78 w' q (dN most s).2.1) := by
  obtain ⟨l, b⟩ := s
  have hpq := h.ne
  have U := docCount_any w q l h.rd h.by_ h.ln most hm1 hm2
  have HD : Hid (dN most (l, b) = ((ct l most).1, (l.drop (ct l most).2.2, b || decide ((ct l most).2.1 ≠ 0)))) := rfl
  obtain ⟨c0, c1, z1⟩ := h.cells
  have HS : Hid (∀ w1 k, Rd 78 w1 q (l.drop k) → Fr (fun i => i = q) w w1 → DS w1 p q (l.drop k, b)) := fun w1 k r1 f1 => h.stepq r1 f1 (bytes_drop h.by_ k) (len_drop h.ln k)
  clear h
  generalize dN most (l, b) = D at *
  generalize ct l most = t at *
  obtain ⟨v, x, k⟩ := t
  simp only [] at *
  cases b with
  | true =>
    go_enter Tryz.func27, Tryz.ntmps27
    go_wp2_with fail
    refine U.mono ?_
    rintro e w1 ⟨rfl, r1, rs1, f1⟩
    have d1 := HS.out w1 _ r1 f1
    obtain ⟨c0', c1', z1'⟩ := d1.cells
    have S := d1.set true
    clear d1
    go_wp2_with fail
    go_ret
    rw [HD.out]
    exact ⟨rfl, by simpa using S.1, f1.trans S.2 (fun _ _ e => .inr e) (fun _ _ e => .inl e), fun e => by simp at e⟩
  | false =>
    by_cases hx : x = 0
    · subst hx
      go_enter Tryz.func27, Tryz.ntmps27
      go_wp2_with fail
      refine U.mono ?_
      rintro e w1 ⟨rfl, r1, rs1, f1⟩
      have d1 := HS.out w1 _ r1 f1
      obtain ⟨c0', c1', z1'⟩ := d1.cells
      have S := d1.set false
      have nb1 := d1.nob
      clear d1
      go_wp2_with fail
      go_ret
      rw [HD.out]
      exact ⟨rfl, by simpa using S.1, f1.trans S.2 (fun _ _ e => .inr e) (fun _ _ e => .inl e), fun _ => (rs1 trivial).beside S.2 hpq nb1⟩
    · have hx' : ((x : Int) == 0) = false := by simp; omega
      have hx2 : ((x : Int) != 0) = true := by simp; omega
      go_enter Tryz.func27, Tryz.ntmps27
      go_wp2_with fail
      refine U.mono ?_
      rintro e w1 ⟨rfl, r1, rs1, f1⟩
      have d1 := HS.out w1 _ r1 f1
      obtain ⟨c0', c1', z1'⟩ := d1.cells
      have S := d1.set true
      clear d1
      go_wp2_with fail
      go_ret
      rw [HD.out]
      exact ⟨rfl, by simpa [hx] using S.1, f1.trans S.2 (fun _ _ e => .inr e) (fun _ _ e => .inl e), fun e => by simp [hx] at e⟩


/-- A box M of kind tt that is filled, one R that is handed back, both new since w, beside the reader. -/
structure MS (w : World) (tt : TypeId) (p q R M : Nat) (Z mc : Array Value) (s : Sb) (w' : World) : Prop where
  ds : DS w' p q s
  fr : Fr (PQ p q) w w'
  hR : w'.heap[R]? = some (.cells Z tt (0, 0))
  hM : w'.heap[M]? = some (.cells mc tt (0, 0))
  rp : R ≠ p ∧ R ≠ q
  nM : w.heap.size ≤ M
  ne : R ≠ M
  pl : p < w.heap.size
  ql : q < w.heap.size
  nb : ∀ u ∈ mc.toList, nob u

section
variable {w : World} {tt : TypeId} {p q R M : Nat} {Z mc : Array Value} {s s2 : Sb} {w1 w2 : World}

theorem MS.new (h : MS w tt p q R M Z mc s w1) (f : Fr no w1 w2) : MS w tt p q R M Z mc s w2 :=
  ⟨h.ds.new f, h.fr.trans f (fun _ _ e => e) (fun _ _ f => f.elim), f.heap h.hR (fun f => f), f.heap h.hM (fun f => f), h.rp, h.nM, h.ne, h.pl, h.ql, h.nb⟩
theorem MS.drew (h : MS w tt p q R M Z mc s w1) : MS w tt p q R M Z mc s w1.drew := h.new (Fr.refl no w1).drew
theorem MS.read (h : MS w tt p q R M Z mc s w1) (d : DS w2 p q s2) (f : Fr (PQ p q) w1 w2) : MS w tt p q R M Z mc s2 w2 :=
  ⟨d, h.fr.trans f (fun _ _ e => e) (fun _ _ e => e), f.heap h.hR (fun e => e.elim (fun e => h.rp.1 e) (fun e => h.rp.2 e)), f.heap h.hM (fun e => e.elim (fun e => by have := h.nM; have := h.pl; omega) (fun e => by have := h.nM; have := h.ql; omega)), h.rp, h.nM, h.ne, h.pl, h.ql, h.nb⟩
theorem MS.set (h : MS w tt p q R M Z mc s w1) (j : Nat) (v : Value) (hv : nob v) : MS w tt p q R M Z (mc.setIfInBounds j v) s (w1.setCell ⟨M, j, none⟩ v) := by
  have f := fr_one w1 M j v
  refine ⟨h.ds.away (fun k hk => by subst hk; exact ⟨by have := h.nM; have := h.pl; omega, by have := h.nM; have := h.ql; omega, nob_block h.hM h.nb⟩) f, h.fr.trans f (fun _ _ e => e) (fun i hi e => by have := h.nM; omega), f.heap h.hR (fun e => h.ne e), set_at h.hM j v, h.rp, h.nM, h.ne, h.pl, h.ql, ?_⟩
  intro u hu
  rw [Array.toList_setIfInBounds] at hu
  rcases List.mem_or_eq_of_mem_set hu with hu | rfl
  · exact h.nb u hu
  · exact hv
theorem MS.bad (h : MS w tt p q R M Z mc s w1) (b : Bool) : MS w tt p q R M Z mc (s.1, b) (w1.setCell ⟨p, 1, none⟩ (.bool b)) := by
  have S := h.ds.set b
  exact ⟨S.1, h.fr.trans S.2 (fun _ _ e => e) (fun _ _ e => .inl e), S.2.heap h.hR (fun e => h.rp.1 e), S.2.heap h.hM (fun e => by have := h.nM; have := h.pl; omega), h.rp, h.nM, h.ne, h.pl, h.ql, h.nb⟩
theorem MS.ltM (h : MS w tt p q R M Z mc s w1) : M < w1.heap.size := lt_of_heap h.hM
theorem MS.ltR (h : MS w tt p q R M Z mc s w1) : R < w1.heap.size := lt_of_heap h.hR

/-- A row that is new since w. -/
structure Rw {α : Type} (K : El α) (w w' : World) (v : Value) (l : List α) : Prop where
  own : OwnG K w' v l
  nw : ∀ k, v.ownBlock = some k → w.heap.size ≤ k

variable {α : Type} {K : El α} {v v' : Value} {l l' : List α}
theorem Rw.nil (K : El α) (w w' : World) : Rw K w w' (.slice none 0 0) [] := ⟨OwnG.nil K w', fun k hk => by simp [Value.ownBlock] at hk⟩
theorem Rw.new (h : Rw K w w1 v l) (f : Fr no w1 w2) : Rw K w w2 v l := ⟨h.own.kept f (fun _ _ f => f), h.nw⟩
theorem Rw.drew (h : Rw K w w1 v l) : Rw K w w1.drew v l := h.new (Fr.refl no w1).drew
theorem Rw.read (h : Rw K w w1 v l) (hp : p < w.heap.size) (hq : q < w.heap.size) (f : Fr (PQ p q) w1 w2) : Rw K w w2 v l :=
  ⟨h.own.kept f (fun k hk e => by have := h.nw k hk; rcases e with e | e <;> omega), h.nw⟩
theorem Rw.set (h : Rw K w w1 v l) {A : Nat} {cur : Array Value} {t : TypeId} (hA : w1.heap[A]? = some (.cells cur t (0, 0))) (ht : t ≠ K.e) (j : Nat) (u : Value) : Rw K w (w1.setCell ⟨A, j, none⟩ u) v l :=
  ⟨h.own.but (fr_one w1 A j u) (fun k hk cur' t' fz hc => by subst hk; rw [hA] at hc; simp only [Option.some.injEq, Obj.cells.injEq] at hc; rw [← hc.2.1]; exact ht), h.nw⟩
theorem Rw.bad (h : Rw K w w1 v l) (hp : p < w.heap.size) (b : Bool) : Rw K w (w1.setCell ⟨p, 1, none⟩ (.bool b)) v l :=
  ⟨h.own.kept (fr_one w1 p 1 (.bool b)) (fun k hk e => by have := h.nw k hk; omega), h.nw⟩
/-- Beside another row that grows. -/
theorem Rw.beside (h : Rw K w w1 v l) {β : Type} {K' : El β} {u u' : Value} {m : List β} (o : OwnG K' w1 u m) (ht : K'.e ≠ K.e) (sp : Sp no u w1 u' w2) : Rw K w w2 v l :=
  ⟨h.own.but sp.1 (fun k hk cur t fz hc => by
    rcases hk with hk | hk
    · exact hk.elim
    · obtain ⟨cur', e⟩ := o.tag hk
      rw [e] at hc
      simp only [Option.some.injEq, Obj.cells.injEq] at hc
      rw [← hc.2.1]
      exact ht), h.nw⟩
theorem MS.row (h : MS w tt p q R M Z mc s w1) (r : Rw K w w1 v l) (ht : K.e ≠ tt) (o : OwnG K w2 v' l') (sp : Sp no v w1 v' w2) : MS w tt p q R M Z mc s w2 ∧ Rw K w w2 v' l' := by
  have tg : ∀ k, v.ownBlock = some k → ∀ cur t fz, w1.heap[k]? = some (.cells cur t fz) → t = K.e := fun k hk cur t fz hc => by
    obtain ⟨cur', e⟩ := r.own.tag hk
    rw [e] at hc
    simp only [Option.some.injEq, Obj.cells.injEq] at hc
    exact hc.2.1.symm
  have nt : ∀ {A : Nat} {cur : Array Value}, w1.heap[A]? = some (.cells cur tt (0, 0)) → ¬ (no A ∨ v.ownBlock = some A) := fun hA e => e.elim (fun f => f) (fun e => ht (tg _ e _ _ _ hA).symm)
  refine ⟨⟨h.ds.away (fun k hk => ?_) sp.1, h.fr.trans sp.1 (fun _ _ e => e) (fun i hi e => e.elim (fun f => f.elim) (fun e => by have := r.nw i e; omega)), sp.1.heap h.hR (nt h.hR), sp.1.heap h.hM (nt h.hM), h.rp, h.nM, h.ne, h.pl, h.ql, h.nb⟩, o, fun k hk => ?_⟩
  · rcases hk with hk | hk
    · exact hk.elim
    · have := r.nw k hk
      have h1 := h.pl
      have h2 := h.ql
      exact ⟨by omega, by omega, fun cur t fz hc => r.own.2 k cur t fz hk hc⟩
  · rcases Nat.lt_or_ge k w1.heap.size with hh | hh
    · exact r.nw k (sp.2 k hh hk)
    · exact Nat.le_trans h.fr.size hh
end
end Go.Proofs.YthncdbobjeeeaaaGreatDoor

