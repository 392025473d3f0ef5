/- Straight code: its locks along it; rows of enters and exits. -/
import Derived.Test.YtalgjpmaafooeaaGreatDoorKaz
namespace Go.Proofs.YtalgjpmaafooeaaGreatDoor
open Go.ChangeShapes Go.WideShapes Go.ChangeAt Go.RowKit
open H (ky Owns MapOf ix NewV)
structure AtW (n : Nat) (s : Wk) (i : Nat) (h : List Int) : Prop where
 l1 : s.A.length = n
 l2 : s.R.length = n
 lt : i < n
 cur : s.A[i]? = some h
 rest : ∀ j, i < j → j < n → s.R[j]? = some false
 w : s.W = [(i : Int)]
def lineL : List (Int × Int) → List Int → Bool
 | [], h => decide (h.length = 0)
 | ins :: l, h => if (behP ins h).2 = false then false else lineL l (behP ins h).1
theorem fits_line (cd : List (Int × Int)) : ∀ (l : List (Int × Int)) (i : Nat) (h : List Int) (s : Wk) (fuel : Nat), cd.drop i = l ++ [(33, 0)] → AtW cd.length s i h → (∀ x ∈ l, has x.1 1 = false ∧ has x.1 2 = false) → l.length + 2 ≤ fuel →
 ∃ r, fitsP cd fuel s = some (lineL l h, r) := by
 intro l
 induction l with
 | nil =>
  intro i h s fuel hcd H _ hf
  obtain ⟨n, rfl⟩ : ∃ n, fuel = n + 2 := ⟨fuel - 2, by simp at hf; omega⟩
  have hins : cd[i]? = some (33, 0) := by
   have : (cd.drop i)[0]? = some (33, 0) := by rw [hcd]; rfl
   rwa [List.getElem?_drop, Nat.add_zero] at this
  have hw : s.W.getLast? = some (i : Int) := by rw [H.w]; rfl
  have hd : s.W.dropLast = [] := by rw [H.w]; rfl
  have b1 : has 33 1 = true := by decide +kernel
  have b2 : has 33 2 = false := by decide +kernel
  have ok : okW cd i ⟨s.A, s.R, s.W.dropLast⟩ := by
   unfold okW
   rw [getD_of hins (0, 0), hd]
   exact ⟨show 0 ≤ 900 by decide, fun e => absurd (show has 33 1 = false from e) (by rw [b1]; simp), fun e => absurd (show has 33 2 = true from e) (by rw [b2]; simp)⟩
  have hb : behP (33, 0) h = (h, decide (h.length = 0)) := by simp [behP]
  unfold fitsP
  rw [hw]
  simp only [Int.toNat_natCast]
  rw [if_pos ⟨by omega, H.lt, ok⟩]
  have hp : passP cd i ⟨s.A, s.R, s.W.dropLast⟩ = (decide (h.length = 0), ⟨s.A, s.R, s.W.dropLast⟩) := by
   unfold passP
   rw [getD_of hins (0, 0), getD_of H.cur [], hb]
   simp only [b1, b2]
   cases decide (h.length = 0) <;> simp
  rw [hp]
  unfold lineL
  cases hz : decide (h.length = 0) with
  | false => exact ⟨_, rfl⟩
  | true =>
   simp only [Bool.true_eq_false, if_false]
   unfold fitsP
   rw [hd]
   exact ⟨_, rfl⟩
 | cons ins l ih =>
  intro i h s fuel hcd H hops hf
  obtain ⟨n, rfl⟩ : ∃ n, fuel = n + 1 := ⟨fuel - 1, by simp at hf; omega⟩
  have hins : cd[i]? = some ins := by
   have : (cd.drop i)[0]? = some ins := by rw [hcd]; rfl
   rwa [List.getElem?_drop, Nat.add_zero] at this
  have hw : s.W.getLast? = some (i : Int) := by rw [H.w]; rfl
  have hd : s.W.dropLast = [] := by rw [H.w]; rfl
  obtain ⟨b1, b2⟩ := hops ins (List.mem_cons_self ..)
  have hdl : cd.length - i = (ins :: l ++ [(33, 0)]).length := by rw [← List.length_drop, hcd]
  have hi1 : i + 1 < cd.length := by simp at hdl; omega
  have ok : okW cd i ⟨s.A, s.R, s.W.dropLast⟩ := by
   unfold okW
   rw [getD_of hins (0, 0), hd]
   exact ⟨show 0 ≤ 900 by decide, fun _ => hi1, fun e => by rw [b2] at e; cases e⟩
  unfold fitsP
  rw [hw]
  simp only [Int.toNat_natCast]
  rw [if_pos ⟨by omega, H.lt, ok⟩]
  unfold lineL
  cases hz : (behP ins h).2 with
  | false =>
   have hp : passP cd i ⟨s.A, s.R, s.W.dropLast⟩ = (false, ⟨s.A, s.R, s.W.dropLast⟩) := by
    unfold passP
    rw [getD_of hins (0, 0), getD_of H.cur [], hz]
    simp
   rw [hp]
   exact ⟨_, rfl⟩
  | true =>
   have hR : s.R.getD (i + 1) false = false := getD_of (H.rest (i + 1) (by omega) hi1) false
   have hc : comeP (i + 1) (behP ins h).1 ⟨s.A, s.R, s.W.dropLast⟩ = (true, ⟨s.A.set (i + 1) (behP ins h).1, s.R.set (i + 1) true, [((i + 1 : Nat) : Int)]⟩) := by
    unfold comeP
    simp only [hR, hd]
    rfl
   have hp : passP cd i ⟨s.A, s.R, s.W.dropLast⟩ = (true, ⟨s.A.set (i + 1) (behP ins h).1, s.R.set (i + 1) true, [((i + 1 : Nat) : Int)]⟩) := by
    unfold passP
    rw [getD_of hins (0, 0), getD_of H.cur [], hz]
    simp only [b1, b2, if_true, hc, Bool.true_eq_false, if_false, Bool.false_eq_true]
   rw [hp]
   simp only [Bool.true_eq_false, if_false]
   refine ih (i + 1) _ _ n ?_ ⟨by simp [H.l1], by simp [H.l2], hi1, ?_, fun j h1 h2 => ?_, rfl⟩ (fun x hx => hops x (List.mem_cons_of_mem _ hx)) (by simp at hf; omega)
   · have : cd.drop (i + 1) = (cd.drop i).drop 1 := by rw [List.drop_drop]
     rw [this, hcd]
     rfl
   · rw [List.getElem?_set_self (by rw [H.l1]; exact hi1)]
   · rw [List.getElem?_set_ne (by omega)]
     exact H.rest j (by omega) h2
theorem atW_beg (n : Nat) (hn : 0 < n) : AtW n (comeP 0 [] (wk0 n)).2 0 [] := by
 have h0 : (wk0 n).R.getD 0 false = false := by
  rw [List.getD_eq_getElem?_getD]
  simp [wk0, hn]
 have hc : (comeP 0 [] (wk0 n)).2 = ⟨(List.replicate n []).set 0 [], (List.replicate n false).set 0 true, [((0 : Nat) : Int)]⟩ := by
  unfold comeP
  rw [h0]
  rfl
 rw [hc]
 refine ⟨by simp, by simp, hn, ?_, fun j h1 h2 => ?_, rfl⟩
 · show ((List.replicate n ([] : List Int)).set 0 [])[0]? = some []
   rw [List.getElem?_set_self (by simpa using hn)]
 · show ((List.replicate n false).set 0 true)[j]? = some false
   rw [List.getElem?_set_ne (by omega), List.getElem?_replicate, if_pos h2]
instance (ins : Int × Int) (x : Stt) : Decidable (OkL ins x) :=
 decidable_of_iff (x.r = true ∧ (∀ t ∈ (ruleP ins.1).tk, t.k = 1 ∨ t.k = 2 ∨ t.k = 6) ∧ rd38 ins x.lo ∧ ins.1 ≠ 7 ∧ (ins.1 = 4 → 0 ≤ ins.2 ∧ ins.2 < x.lo.length) ∧ (ins.1 = 5 → 0 ≤ ins.2 ∧ ins.2 < x.lo.length ∧ (ruleP ins.1).tk.length = 1) ∧ ((ruleP ins.1).tk.length ≤ 1000 ∧ (ruleP ins.1).pt.length ≤ 1000 ∧ (runS (ruleP ins.1) ins x).lo.length ≤ 1000 ∧ (runS (ruleP ins.1) ins x).st.length ≤ 1000))
  ⟨fun ⟨a, b, c, d, e, f, g⟩ => ⟨a, b, c, d, e, f, g⟩, fun ⟨a, b, c, d, e, f, g⟩ => ⟨a, b, c, d, e, f, g⟩⟩
def lineB (K : Int) : List (Int × Int) → Stt → Option Stt
 | [], x => some x
 | ins :: l, x => if OkL ins x ∧ has ins.1 1 = false ∧ has ins.1 2 = false ∧ runErr (ruleP ins.1) ins x = 0 ∧ ¬ K < (runS (ruleP ins.1) ins x).st.length then lineB K l (runS (ruleP ins.1) ins x) else none
theorem line_pre {K : Int} {l2 : List (Int × Int)} {y : Stt} : ∀ (l1 : List (Int × Int)) (x : Stt), lineB K l1 x = some y → (lineOk K l2 y → lineOk K (l1 ++ l2) x) ∧ lineE K (l1 ++ l2) x = lineE K l2 y
 | [], x, h => by
  unfold lineB at h
  simp only [Option.some.injEq] at h
  subst h
  exact ⟨id, rfl⟩
 | ins :: l1, x, h => by
  unfold lineB at h
  split at h
  · rename_i hc
    obtain ⟨c1, c2, c3, c4, c5⟩ := hc
    obtain ⟨i1, i2⟩ := line_pre l1 _ h
    refine ⟨fun hy => ⟨c1, c2, c3, fun _ _ => i1 hy⟩, ?_⟩
    show (if runErr (ruleP ins.1) ins x ≠ 0 then _ else if K < (runS (ruleP ins.1) ins x).st.length then 81 else lineE K (l1 ++ l2) (runS (ruleP ins.1) ins x)) = _
    rw [if_neg (fun e => e c4), if_neg c5, i2]
  · simp at h
theorem lineB_app {K : Int} {l2 : List (Int × Int)} {y : Stt} : ∀ (l1 : List (Int × Int)) (x : Stt), lineB K l1 x = some y → lineB K (l1 ++ l2) x = lineB K l2 y
 | [], x, h => by
  unfold lineB at h
  simp only [Option.some.injEq] at h
  subst h
  rfl
 | ins :: l1, x, h => by
  unfold lineB at h
  split at h
  · rename_i hc
    show (if _ then _ else _) = _
    rw [if_pos hc]
    exact lineB_app l1 _ h
  · simp at h
def x8 : Stt := ⟨true, List.replicate 8 ⟨4, sMain⟩, []⟩
theorem lineB_eq {K : Int} {l : List (Int × Int)} {x y : Stt} (h : (lineB K l x).map (fun z => (z.r, z.lo, z.st)) = some (y.r, y.lo, y.st)) : lineB K l x = some y := by
 obtain ⟨z, hz, e⟩ := Option.map_eq_some_iff.1 h
 rw [hz]
 obtain ⟨zr, zl, zs⟩ := z
 obtain ⟨yr, yl, ys⟩ := y
 simp only [Prod.mk.injEq] at e
 obtain ⟨rfl, rfl, rfl⟩ := e
 rfl
theorem pre_x8 : lineB 2 (pre7 7) ⟨true, ⟨4, sMain⟩ :: tops, []⟩ = some x8 := lineB_eq (by decide +kernel)
theorem step_x8 : ∀ n : Fin 8, (lineB 2 [(38, (n.val : Int))] x8).map (fun z => (z.r, z.lo, z.st)) = some (x8.r, x8.lo, x8.st) ∧ (lineB 2 [(39, (n.val : Int))] x8).map (fun z => (z.r, z.lo, z.st)) = some (x8.r, x8.lo, x8.st) := by decide +kernel
def Lks (l : List (Int × Int)) : Prop := ∀ x ∈ l, (x.1 = 38 ∨ x.1 = 39) ∧ 0 ≤ x.2 ∧ x.2 < 8
theorem lks_x8 : ∀ l, Lks l → lineB 2 l x8 = some x8
 | [], _ => rfl
 | (op, a) :: l, h => by
  obtain ⟨h1, h2, h3⟩ := h (op, a) (List.mem_cons_self ..)
  simp only at h1 h2 h3
  obtain ⟨n, rfl⟩ : ∃ n : Fin 8, a = (n.val : Int) := ⟨⟨a.toNat, by omega⟩, by show a = ((a.toNat : Nat) : Int); omega⟩
  have hs : lineB 2 [(op, (n.val : Int))] x8 = some x8 := by
   rcases h1 with rfl | rfl
   · exact lineB_eq (step_x8 n).1
   · exact lineB_eq (step_x8 n).2
  have := lineB_app (l2 := l) _ _ hs
  exact this.trans (lks_x8 l (fun x hx => h x (List.mem_cons_of_mem _ hx)))
theorem lks_shift : ∀ l, Lks l → l.map shift = l
 | [], _ => rfl
 | x :: l, h => by
  obtain ⟨h1, -, -⟩ := h x (List.mem_cons_self ..)
  rw [List.map_cons, lks_shift l (fun y hy => h y (List.mem_cons_of_mem _ hy))]
  have : shift x = x := by unfold shift; rw [if_neg (by omega)]
  rw [this]
theorem lineL_pre (l : List (Int × Int)) : lineL (pre7 7 ++ l) [] = lineL l [] := by
 have : ∀ (p : List (Int × Int)), (∀ x ∈ p, x.1 = 4 ∨ x.1 = 5) → lineL (p ++ l) [] = lineL l [] := by
  intro p
  induction p with
  | nil => intro _; rfl
  | cons x p ih =>
   intro h
   have hb : behP x [] = ([], true) := by
    rcases h x (List.mem_cons_self ..) with e | e <;> simp [behP, e, inI]
   show (if (behP x []).2 = false then false else lineL (p ++ l) (behP x []).1) = _
   rw [hb]
   exact ih (fun y hy => h y (List.mem_cons_of_mem _ hy))
 exact this _ (by decide +kernel)
theorem mem_all {l : List (Int × Int)} (h : Lks l) {x : Int × Int} (hx : x ∈ allCd l) : (∃ j : Fin 14, (pre7 7)[j.val]? = some x) ∨ ((x.1 = 38 ∨ x.1 = 39) ∧ 0 ≤ x.2 ∧ x.2 < 8) ∨ x = (33, 0) := by
 unfold allCd at hx
 rw [lks_shift l h] at hx
 rcases List.mem_append.1 hx with hx | hx
 · rcases List.mem_append.1 hx with hx | hx
   · obtain ⟨j, hj⟩ := List.mem_iff_getElem?.1 hx
     have : j < 14 := by
      have := (List.getElem?_eq_some_iff.1 hj).1
      rw [pre7_len] at this
      exact this
     exact .inl ⟨⟨j, this⟩, hj⟩
   · exact .inr (.inl (h x hx))
 · exact .inr (.inr (by simpa using hx))
theorem ops_pre : ∀ j : Fin 14, ∀ x, (pre7 7)[j.val]? = some x → x.1 ∈ plainOps ∧ has x.1 1 = false ∧ has x.1 2 = false := by
 intro j x hx
 have : ∀ j : Fin 14, (((pre7 7)[j.val]?).map fun x => decide (x.1 ∈ plainOps) && !has x.1 1 && !has x.1 2) = some true := by decide +kernel
 have h := this j
 rw [hx] at h
 simpa [and_assoc] using h
theorem ck_pre (n : Nat) : ∀ j : Fin 14, ∀ x, (pre7 7)[j.val]? = some x → ckIns pool1 8 n x = 0 := by
 intro j x hx
 have hx' : x ∈ pre7 7 := List.mem_of_getElem? hx
 have hm : x ∈ [(4, 0), (5, 1), (4, 0), (5, 2), (4, 0), (5, 3), (4, 0), (5, 4), (4, 0), (5, 5), (4, 0), (5, 6), (4, 0), (5, (7 : Int))] := hx'
 simp only [List.mem_cons, List.not_mem_nil, or_false] at hm
 have c4 : ckIns pool1 8 n (4, 0) = 0 := by kernel_rfl
 have d1 : ckIns pool1 8 n (5, 1) = 0 := by kernel_rfl
 have d2 : ckIns pool1 8 n (5, 2) = 0 := by kernel_rfl
 have d3 : ckIns pool1 8 n (5, 3) = 0 := by kernel_rfl
 have d4 : ckIns pool1 8 n (5, 4) = 0 := by kernel_rfl
 have d5 : ckIns pool1 8 n (5, 5) = 0 := by kernel_rfl
 have d6 : ckIns pool1 8 n (5, 6) = 0 := by kernel_rfl
 have d7 : ckIns pool1 8 n (5, 7) = 0 := by kernel_rfl
 rcases hm with e | e | e | e | e | e | e | e | e | e | e | e | e | e <;> rw [e] <;> assumption
theorem ck_lk (n : Nat) : ∀ a : Fin 8, ckIns pool1 8 n (38, (a.val : Int)) = 0 ∧ ckIns pool1 8 n (39, (a.val : Int)) = 0 := by
 intro a
 obtain rfl | rfl | rfl | rfl | rfl | rfl | rfl | rfl : a = 0 ∨ a = 1 ∨ a = 2 ∨ a = 3 ∨ a = 4 ∨ a = 5 ∨ a = 6 ∨ a = 7 := by omega
 all_goals exact ⟨by kernel_rfl, by kernel_rfl⟩
theorem allCd_len (l : List (Int × Int)) : (allCd l).length = 14 + l.length + 1 := by
 unfold allCd
 rw [List.length_append, List.length_append, pre7_len, List.length_map]
 rfl
theorem has_lk : has 38 1 = false ∧ has 38 2 = false ∧ has 39 1 = false ∧ has 39 2 = false ∧ has 33 1 = true := by decide +kernel
theorem fit1' : ∀ x ∈ pool1, fitS x.c ∧ fitS x.m := by
 intro x hx
 simp only [pool1, List.mem_cons, List.not_mem_nil, or_false] at hx
 subst hx
 exact ⟨fitS_lit (by decide), fitS_lit (by decide)⟩
theorem ask_lks (l : List (Int × Int)) (h : Lks l) (hl : l.length ≤ 100) : ∃ res lr, Asked 8 2 tops (allCd l) pool1 200 res ∧ fitsP (allCd l) 200 (comeP 0 [] (wk0 (allCd l).length)).2 = some lr ∧ decide (lockE res.1 lr.1 = 0) = lineL l [] := by
 have hlen := allCd_len l
 have hcd : allCd l = (pre7 7 ++ l) ++ [(33, 0)] := by unfold allCd; rw [lks_shift l h]
 have hB : lineB 2 (pre7 7 ++ l) ⟨true, ⟨4, sMain⟩ :: tops, []⟩ = some x8 := (lineB_app _ _ pre_x8).trans (lks_x8 l h)
 obtain ⟨p1, p2⟩ := line_pre (l2 := []) _ _ hB
 rw [List.append_nil] at p1 p2
 obtain ⟨ps, h3⟩ := settle_line 2 (allCd l) (pre7 7 ++ l) 0 _ (beg sMain tops (allCd l).length) 200 (by rw [List.drop_zero]; exact hcd) (at_beg _ _ _ (by omega)) (p1 ⟨rfl, by decide, by decide⟩) (by rw [List.length_append, pre7_len]; omega)
 have hops : ∀ x ∈ pre7 7 ++ l, has x.1 1 = false ∧ has x.1 2 = false := by
  intro x hx
  rcases List.mem_append.1 hx with hx | hx
  · obtain ⟨j, hj⟩ := List.mem_iff_getElem?.1 hx
    have hj14 : j < 14 := by
     have := (List.getElem?_eq_some_iff.1 hj).1
     rw [pre7_len] at this
     exact this
    exact (ops_pre ⟨j, hj14⟩ x hj).2
  · obtain ⟨e1, -, -⟩ := h x hx
    obtain ⟨a1, a2, a3, a4, -⟩ := has_lk
    rcases e1 with e | e <;> rw [e]
    · exact ⟨a1, a2⟩
    · exact ⟨a3, a4⟩
 obtain ⟨r, h4⟩ := fits_line (allCd l) (pre7 7 ++ l) 0 [] (comeP 0 [] (wk0 (allCd l).length)).2 200 (by rw [List.drop_zero]; exact hcd) (atW_beg _ (by omega)) hops (by rw [List.length_append, pre7_len]; omega)
 refine ⟨_, _, ⟨link_main 8 2 _ pool1 (by decide) (by omega) (by omega) (by decide +kernel) (fun x hx => ?_) ?_ (by kernel_rfl), fit_main 8 2 _ pool1 fit1', .inr (.inr ⟨rfl, rfl⟩), by omega, by omega, fun x hx => ?_, h3⟩, h4, ?_⟩
 · rcases mem_all h hx with ⟨j, hj⟩ | ⟨e1, e2, e3⟩ | rfl
   · exact ck_pre _ j x hj
   · obtain ⟨op, a⟩ := x
     simp only at e1 e2 e3
     obtain ⟨n, rfl⟩ : ∃ n : Fin 8, a = (n.val : Int) := ⟨⟨a.toNat, by omega⟩, by show a = ((a.toNat : Nat) : Int); omega⟩
     rcases e1 with rfl | rfl
     · exact (ck_lk _ n).1
     · exact (ck_lk _ n).2
   · kernel_rfl
 · have : (allCd l).getD ((allCd l).length - 1) (0, 0) = (33, 0) := by
    rw [hcd, List.getD_eq_getElem?_getD, List.length_append, List.length_singleton, Nat.add_sub_cancel, List.getElem?_append_right (Nat.le_refl _), Nat.sub_self]
    rfl
   rw [this]
   exact has_lk.2.2.2.2
 · rcases mem_all h hx with ⟨j, hj⟩ | ⟨e1, -, -⟩ | rfl
   · exact .inl (ops_pre j x hj).1
   · rcases e1 with e | e <;> rw [e] <;> decide
   · exact .inr rfl
 · show decide (lockE (lineE 2 (pre7 7 ++ l) ⟨true, ⟨4, sMain⟩ :: tops, []⟩) (lineL (pre7 7 ++ l) []) = 0) = lineL l []
   rw [p2, lineL_pre]
   show decide (lockE 0 (lineL l []) = 0) = lineL l []
   unfold lockE
   rw [if_neg (by simp)]
   cases lineL l [] <;> simp
end Go.Proofs.YtalgjpmaafooeaaGreatDoor
