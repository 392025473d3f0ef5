/- Rows of instructions: what is asked of them. -/
import Derived.Test.YtalgjpmaafooeaaGreatDoorKau
namespace Go.Proofs.YtalgjpmaafooeaaGreatDoor
open Go.ChangeShapes Go.WideShapes Go.ChangeAt Go.RowKit
open H (ky Owns MapOf ix NewV)
theorem fit_main (lo st : Int) (cd : List (Int × Int)) (pool : List Cs) (hp : ∀ x ∈ pool, fitS x.c ∧ fitS x.m) : FitC (mainK lo st cd pool) := by
 refine ⟨fitS_lit (by decide), fitS_lit (by decide), hp, fun x hx => ?_, fun m hm => ?_⟩
 · simp [mainK] at hx
 · simp only [mainK, List.mem_singleton] at hm
   subst hm
   exact ⟨fitS_lit (by decide), fitS_lit (by decide), fun t ht => by simp [mainN] at ht⟩
theorem firstE_all {α : Type} (ask : α → List α → Nat) (l : List α) : ∀ ahead, (∀ x ∈ l, ∀ a, ask x a = 0) → firstE ask ahead l = 0 := by
 induction l with
 | nil => intro _ _; rfl
 | cons x r ih =>
  intro ahead h
  unfold firstE
  rw [if_neg (by rw [h x (by simp)]; simp)]
  exact ih _ (fun y hy a => h y (by simp [hy]) a)
theorem link_main (lo st : Int) (cd : List (Int × Int)) (pool : List Cs) (h1 : 1 ≤ lo ∧ lo ≤ 32 ∧ 0 ≤ st ∧ st ≤ 64) (h0 : 0 < cd.length) (h2 : cd.length ≤ 200) (hpl : eachE 128 (fun x _ => ckCs x) pool = 0) (hi : ∀ x ∈ cd, ckIns pool lo cd.length x = 0) (hl : has (cd.getD (cd.length - 1) (0, 0)).1 1 = true)
 (hpn : firstN (constE [H.obj, H.fault, sMain] (layAll (allC [mainK lo st cd pool]) [0, 0, 0])) pool = 0) : linkE [mainK lo st cd pool] = 0 := by
 have hb : ckBody pool (mainN lo st cd) = 0 := by
  unfold ckBody
  rw [if_pos (by simp [mainN]; omega), if_neg (show ¬ (mainN lo st cd).code.length = 0 from fun e => by have : cd.length = 0 := e; omega)]
  have he : eachE 200 (fun x _ => ckIns pool (mainN lo st cd).lo (mainN lo st cd).code.length x) (mainN lo st cd).code = 0 := by
   unfold eachE
   rw [if_neg (show ¬ 200 < (mainN lo st cd).code.length from fun e => by have : 200 < cd.length := e; omega)]
   exact firstE_all _ _ _ (fun x hx _ => hi x hx)
  rw [if_neg (by rw [he]; simp)]
  show (if has (cd.getD (cd.length - 1) (0, 0)).1 1 = true then eachE 16 (fun h _ => ckHd pool cd.length h) [] else 54) = 0
  rw [if_pos hl]
  rfl
 have hf : ckFace (mainN lo st cd) [] = 0 := by
  show (if isName smain = true then (if eachE 6 ckTy [] ≠ 0 then eachE 6 ckTy [] else if isType ⟨0, e0⟩ true = true then (if ([] : List Mt).any (fun y => decide (y.name = smain)) = true then 53 else 0) else 50) else 50) = 0
  decide +kernel
 have hc : chk (mainK lo st cd pool) = 0 := by
  show (if isName sMain = true ∧ (e0 = e0 ∨ isName e0 = true) then (if eachE 128 (fun x _ => ckCs x) pool ≠ 0 then eachE 128 (fun x _ => ckCs x) pool else if eachE 8 ckFd [] ≠ 0 then eachE 8 ckFd [] else eachE 12 (ckMt pool) [mainN lo st cd]) else 50) = 0
  rw [if_pos (show isName sMain = true ∧ (e0 = e0 ∨ isName e0 = true) by decide +kernel), if_neg (by rw [hpl]; simp), if_neg (by decide)]
  show eachE 12 (ckMt pool) [mainN lo st cd] = 0
  unfold eachE
  rw [if_neg (by simp)]
  show (if ckMt pool (mainN lo st cd) [] ≠ 0 then ckMt pool (mainN lo st cd) [] else firstE (ckMt pool) ([] ++ [mainN lo st cd]) []) = 0
  have hm : ckMt pool (mainN lo st cd) [] = 0 := by
   unfold ckMt
   rw [hf, if_neg (by simp)]
   exact hb
  rw [hm, if_neg (by simp)]
  rfl
 have hn : newC [mainK lo st cd pool] = (0, [H.obj, H.fault, sMain], [0, 0, 0]) := by kernel_rfl
 have hm : firstN (memE (allC [mainK lo st cd pool]) [0, 0, 0]) (List.range (allC [mainK lo st cd pool]).length) = 0 := by kernel_rfl
 have hp : firstN (poolE (allC [mainK lo st cd pool]) (layAll (allC [mainK lo st cd pool]) [0, 0, 0])) (List.range (allC [mainK lo st cd pool]).length) = 0 := by
  show (if poolE (allC [mainK lo st cd pool]) (layAll (allC [mainK lo st cd pool]) [0, 0, 0]) 0 ≠ 0 then _ else if poolE (allC [mainK lo st cd pool]) (layAll (allC [mainK lo st cd pool]) [0, 0, 0]) 1 ≠ 0 then _ else if poolE (allC [mainK lo st cd pool]) (layAll (allC [mainK lo st cd pool]) [0, 0, 0]) 2 ≠ 0 then _ else 0) = 0
  rw [if_neg (show ¬ poolE (allC [mainK lo st cd pool]) (layAll (allC [mainK lo st cd pool]) [0, 0, 0]) 0 ≠ 0 from fun h => h rfl), if_neg (show ¬ poolE (allC [mainK lo st cd pool]) (layAll (allC [mainK lo st cd pool]) [0, 0, 0]) 1 ≠ 0 from fun h => h rfl), if_neg]
  have : poolE (allC [mainK lo st cd pool]) (layAll (allC [mainK lo st cd pool]) [0, 0, 0]) 2 = 0 := hpn
  rw [this]
  simp
 have hM : mainE (allC [mainK lo st cd pool]) (layAll (allC [mainK lo st cd pool]) [0, 0, 0]) = 0 := by kernel_rfl
 unfold linkE
 have hfc : firstN chk [mainK lo st cd pool] = 0 := by
  show (if chk (mainK lo st cd pool) ≠ 0 then chk (mainK lo st cd pool) else 0) = 0
  rw [hc, if_neg (by simp)]
 rw [if_neg (by rw [hfc]; simp), hn]
 simp only
 rw [if_neg (by simp)]
 unfold checkE
 rw [if_neg (by rw [hm]; simp), if_neg (by rw [hp]; simp), hM]
 rfl
end Go.Proofs.YtalgjpmaafooeaaGreatDoor
/- Straight code: its flow settles along it. -/
namespace Go.Proofs.YtalgjpmaafooeaaGreatDoor
open Go.ChangeShapes Go.WideShapes Go.ChangeAt Go.RowKit
open H (ky Owns MapOf ix NewV)
structure AtI (n : Nat) (p : Ps) (i : Nat) (x : Stt) : Prop where
 l1 : p.1.length = n
 l2 : p.2.length = n
 lt : i < n
 cur : p.1[i]? = some x
 rest : ∀ j, i < j → j < n → p.1[j]? = some zS
 mks : ∀ j, j < n → p.2[j]? = some (decide (j = i))
structure OkL (ins : Int × Int) (x : Stt) : Prop where
 rr : x.r = true
 fit : ∀ t ∈ (ruleP ins.1).tk, t.k = 1 ∨ t.k = 2 ∨ t.k = 6
 n38 : rd38 ins x.lo
 n7 : ins.1 ≠ 7
 h4 : ins.1 = 4 → 0 ≤ ins.2 ∧ ins.2 < x.lo.length
 h5 : ins.1 = 5 → 0 ≤ ins.2 ∧ ins.2 < x.lo.length ∧ (ruleP ins.1).tk.length = 1
 few : (ruleP ins.1).tk.length ≤ 1000 ∧ (ruleP ins.1).pt.length ≤ 1000 ∧ (runS (ruleP ins.1) ins x).lo.length ≤ 1000 ∧ (runS (ruleP ins.1) ins x).st.length ≤ 1000
def lineE (K : Int) : List (Int × Int) → Stt → Int
 | [], _ => 0
 | ins :: l, x => if runErr (ruleP ins.1) ins x ≠ 0 then runErr (ruleP ins.1) ins x else if K < (runS (ruleP ins.1) ins x).st.length then 81 else lineE K l (runS (ruleP ins.1) ins x)
def lineOk (K : Int) : List (Int × Int) → Stt → Prop
 | [], x => x.r = true ∧ x.lo.length ≤ 1000 ∧ x.st.length ≤ 1000
 | ins :: l, x => OkL ins x ∧ has ins.1 1 = false ∧ has ins.1 2 = false ∧ (runErr (ruleP ins.1) ins x = 0 → ¬ K < (runS (ruleP ins.1) ins x).st.length → lineOk K l (runS (ruleP ins.1) ins x))
theorem contains_at {n : Nat} {p : Ps} {i : Nat} {x : Stt} (h : AtI n p i x) : p.2.contains true = true := by
 rw [List.contains_iff_mem]
 exact List.mem_of_getElem? (i := i) (by rw [h.mks i h.lt]; simp)
theorem setMark {n i : Nat} {c : List Bool} (hl : c.length = n) (hi : i < n) (h : ∀ j, j < n → c[j]? = some (decide (j = i))) : ∀ j, j < n → (c.set i false)[j]? = some false := by
 intro j hj
 by_cases e : j = i
 · subst e
   rw [List.getElem?_set_self (by omega)]
 · rw [List.getElem?_set_ne (fun e' => e e'.symm), h j hj]
   simp [e]
theorem AtI.step {n : Nat} {p : Ps} {i : Nat} {x : Stt} (h : AtI n p i x) (hi : i + 1 < n) (y : Stt) : AtI n (p.1.set (i + 1) y, (p.2.set i false).set (i + 1) true) (i + 1) y := by
 refine ⟨by simp [h.l1], by simp [h.l2], hi, ?_, fun j h1 h2 => ?_, fun j hj => ?_⟩
 · rw [List.getElem?_set_self (by rw [h.l1]; exact hi)]
 · rw [List.getElem?_set_ne (by omega)]
   exact h.rest j (by omega) h2
 · by_cases e : j = i + 1
   · subst e
     rw [List.getElem?_set_self (by rw [List.length_set, h.l2]; exact hi)]
     simp
   · rw [List.getElem?_set_ne (fun e' => e e'.symm), setMark h.l2 h.lt h.mks j hj]
     simp [e]
theorem okS_of (K : Int) (cd : List (Int × Int)) (ins : Int × Int) (i : Nat) (p : Ps) (x : Stt) (h : OkL ins x) (h1 : has ins.1 1 = false → i + 1 < cd.length ∧ p.1.getD (i + 1) zS = zS) (h2 : has ins.1 2 = false) : OkS K cd (ruleP ins.1) ins i p x :=
 ⟨h.rr, h.fit, h.n38, h.n7, h.h4, h.h5, h.few, fun e => ⟨(h1 e).1, by rw [(h1 e).2]; intro h; exact absurd h (by decide)⟩, fun e => by rw [h2] at e; cases e⟩
theorem settle_line (K : Int) (cd : List (Int × Int)) : ∀ (l : List (Int × Int)) (i : Nat) (x : Stt) (p : Ps) (fuel : Nat), cd.drop i = l ++ [(33, 0)] → AtI cd.length p i x → lineOk K l x → l.length + 2 ≤ fuel →
 ∃ ps, settleP K cd (cd.map fun y => ruleP y.1) fuel i p = some (lineE K l x, ps) := by
 intro l
 induction l with
 | nil =>
  intro i x p fuel hcd h hok hf
  obtain ⟨n, rfl⟩ : ∃ n, fuel = n + 2 := ⟨fuel - 2, by simp at hf; omega⟩
  have hins : cd[i]? = some (33, 0) := by
   have : (cd.drop i)[0]? = some (33, 0) := by rw [hcd]; rfl
   rwa [List.getElem?_drop, Nat.add_zero] at this
  have hr : (cd.map fun y => ruleP y.1)[i]? = some (ruleP 33) := by rw [List.getElem?_map, hins]; rfl
  have hm := h.mks i h.lt
  rw [decide_eq_true rfl] at hm
  obtain ⟨hxr, hx1, hx2⟩ := hok
  have hk : OkL (33, 0) x := by
   refine ⟨hxr, by intro t ht; simp [ruleP] at ht, fun e => by simp at e, by decide, fun e => by simp at e, fun e => by simp at e, ?_⟩
   exact ⟨by decide, by decide, hx1, by simp [ruleP, runS]; omega⟩
  have hOk := okS_of K cd (33, 0) i (p.1, p.2.set i false) x hk (fun e => absurd e (by decide +kernel)) (by decide +kernel)
  have h0 : runErr (ruleP 33) (33, 0) x = 0 := by simp [runErr, ruleP, readE]
  have hst : stepP K (ruleP 33) (33, 0) i (p.1, p.2.set i false) = (0, (p.1, p.2.set i false)) := by
   unfold stepP
   simp only [getD_of h.cur zS]
   rw [if_neg (by rw [h0]; simp)]
   have a1 : after1 K (33, 0) (runS (ruleP 33) (33, 0) x) i (p.1, p.2.set i false) = (0, (p.1, p.2.set i false)) := by
    unfold after1
    rw [if_neg (by decide +kernel)]
   rw [a1, if_neg (by simp)]
   unfold after2
   rw [if_neg (by decide +kernel)]
  refine ⟨(p.1, p.2.set i false), ?_⟩
  unfold settleP
  rw [if_neg (by rw [contains_at h]; simp), getD_of hm false, if_pos rfl, getD_of hr zR, getD_of hins (0, 0), getD_of h.cur zS, if_pos hOk, hst, if_neg (by simp)]
  unfold settleP
  rw [if_pos]
  · rfl
  · rw [Bool.eq_false_iff]
    intro hc
    rw [List.contains_iff_mem] at hc
    obtain ⟨j, hj⟩ := List.mem_iff_getElem?.1 hc
    have hjl : j < cd.length := by
     have := (List.getElem?_eq_some_iff.1 hj).1
     simpa [h.l2] using this
    rw [setMark h.l2 h.lt h.mks j hjl] at hj
    cases hj
 | cons ins l ih =>
  intro i x p fuel hcd h hok hf
  obtain ⟨n, rfl⟩ : ∃ n, fuel = n + 1 := ⟨fuel - 1, by simp at hf; omega⟩
  have hins : cd[i]? = some ins := by
   have : (cd.drop i)[0]? = some ins := by rw [hcd]; rfl
   rwa [List.getElem?_drop, Nat.add_zero] at this
  have hr : (cd.map fun y => ruleP y.1)[i]? = some (ruleP ins.1) := by rw [List.getElem?_map, hins]; rfl
  have hm := h.mks i h.lt
  rw [decide_eq_true rfl] at hm
  obtain ⟨hk, hs1, hs2, hnx⟩ := hok
  have hdl : cd.length - i = (ins :: l ++ [(33, 0)]).length := by rw [← List.length_drop, hcd]
  have hi1 : i + 1 < cd.length := by simp at hdl; omega
  have hz : p.1.getD (i + 1) zS = zS := getD_of (h.rest (i + 1) (by omega) hi1) zS
  have hOk := okS_of K cd ins i (p.1, p.2.set i false) x hk (fun _ => ⟨hi1, hz⟩) hs2
  unfold settleP
  rw [if_neg (by rw [contains_at h]; simp), getD_of hm false, if_pos rfl, getD_of hr zR, getD_of hins (0, 0), getD_of h.cur zS, if_pos hOk]
  unfold lineE
  by_cases h0 : runErr (ruleP ins.1) ins x = 0
  · have hre : reachErr K zS (runS (ruleP ins.1) ins x) = if K < (runS (ruleP ins.1) ins x).st.length then 81 else 0 := by
     unfold reachErr
     by_cases e : K < (runS (ruleP ins.1) ins x).st.length
     · rw [if_pos e, if_pos e]
     · rw [if_neg e, if_neg e, if_pos (show zS.r = false from rfl)]
    have hrx : reachX zS (runS (ruleP ins.1) ins x) = runS (ruleP ins.1) ins x := by
     unfold reachX
     rw [if_pos (show zS.r = false from rfl)]
     rfl
    have hrc : reachC zS (runS (ruleP ins.1) ins x) ((p.2.set i false).getD (i + 1) false) = true := by unfold reachC; rw [if_pos (show zS.r = false from rfl)]
    have a1 : after1 K ins (runS (ruleP ins.1) ins x) i (p.1, p.2.set i false) = (if K < (runS (ruleP ins.1) ins x).st.length then 81 else 0, (p.1.set (i + 1) (runS (ruleP ins.1) ins x), (p.2.set i false).set (i + 1) true)) := by
     unfold after1 rchE rch
     rw [if_pos hs1]
     simp only [hz, hre, hrx, hrc]
    by_cases e : K < (runS (ruleP ins.1) ins x).st.length
    · have hst : stepP K (ruleP ins.1) ins i (p.1, p.2.set i false) = (81, (p.1.set (i + 1) (runS (ruleP ins.1) ins x), (p.2.set i false).set (i + 1) true)) := by
       unfold stepP
       simp only [getD_of h.cur zS]
       rw [if_neg (by rw [h0]; simp), a1, if_pos e, if_pos (by simp)]
      rw [hst, if_pos (by simp), if_neg (show ¬ runErr (ruleP ins.1) ins x ≠ 0 from fun c => c h0), if_pos e]
      exact ⟨_, rfl⟩
    · have hst : stepP K (ruleP ins.1) ins i (p.1, p.2.set i false) = (0, (p.1.set (i + 1) (runS (ruleP ins.1) ins x), (p.2.set i false).set (i + 1) true)) := by
       unfold stepP
       simp only [getD_of h.cur zS]
       rw [if_neg (by rw [h0]; simp), a1, if_neg e, if_neg (by simp)]
       unfold after2
       rw [if_neg (by rw [hs2]; simp)]
      rw [hst, if_neg (by simp), if_neg (show ¬ runErr (ruleP ins.1) ins x ≠ 0 from fun c => c h0), if_neg e]
      rw [Nat.mod_eq_of_lt hi1]
      refine ih (i + 1) _ _ n ?_ (h.step hi1 _) (hnx h0 e) (by simp at hf; omega)
      have : cd.drop (i + 1) = (cd.drop i).drop 1 := by rw [List.drop_drop]
      rw [this, hcd]
      rfl
  · have hst : stepP K (ruleP ins.1) ins i (p.1, p.2.set i false) = (runErr (ruleP ins.1) ins x, (p.1, p.2.set i false)) := by
     unfold stepP
     simp only [getD_of h.cur zS]
     rw [if_pos h0]
    rw [hst, if_pos h0, if_pos h0]
    exact ⟨_, rfl⟩
theorem at_beg (kn : ByteArray) (ts : List Ty) (n : Nat) (hn : 0 < n) : AtI n (beg kn ts n) 0 ⟨true, ⟨4, kn⟩ :: ts, []⟩ := by
 refine ⟨by simp [beg]; omega, by simp [beg]; omega, hn, rfl, fun j h1 h2 => ?_, fun j hj => ?_⟩
 · obtain ⟨k, rfl⟩ : ∃ k, j = k + 1 := ⟨j - 1, by omega⟩
   show (List.replicate (n - 1) (⟨false, [], []⟩ : Stt))[k]? = _
   rw [List.getElem?_replicate, if_pos (by omega)]
   rfl
 · cases j with
   | zero => rfl
   | succ k =>
    show (List.replicate (n - 1) false)[k]? = _
    rw [List.getElem?_replicate, if_pos (by omega)]
    simp
end Go.Proofs.YtalgjpmaafooeaaGreatDoor
/- The statements' first question: two small programs, one that is accepted and one that isn't. -/
namespace Go.Proofs.YtalgjpmaafooeaaGreatDoor
open Go.ChangeShapes Go.WideShapes Go.ChangeAt Go.RowKit
open H (ky Owns MapOf ix NewV)
theorem nopool : ∀ x ∈ ([] : List Cs), fitS x.c ∧ fitS x.m := fun x hx => by simp at hx
theorem Fl.local {w : World} {S C c n : Nat} {xs : List Stt} {ch : List Bool} (h : Fl w S C c n xs ch) {i : Nat} {x : Stt} (hx : xs[i]? = some x) (hr : x.r = true) {j : Nat} {t : Ty} (ht : x.lo[j]? = some t) :
 ∃ b off cap, w.cell? ⟨S, i * 4 + 1, none⟩ = some (.slice (some ⟨b, off, none⟩) x.lo.length cap) ∧ w.cell? ⟨b, off + j * 2, none⟩ = some (.int .i64 t.k) := by
 obtain ⟨ss, s1, s2, s3, -⟩ := h.ex
 have hi : i < ss.length := by
  have := (List.getElem?_eq_some_iff.1 hx).1
  rw [h.lx] at this
  omega
 obtain ⟨sx, hsx⟩ : ∃ sx, ss[i]? = some sx := ⟨_, List.getElem?_eq_getElem hi⟩
 have SA := s3 i sx x hsx hx
 obtain ⟨ad, cap, e, -, -, hit⟩ := s1.sl okSa
 simp only [Value.slice.injEq] at e
 obtain ⟨rfl, -, -⟩ := e
 obtain ⟨b', off', e, hcs⟩ := hit i sx hsx
 simp only [Option.some.injEq, Addr.mk.injEq, and_true] at e
 obtain ⟨rfl, rfl⟩ := e
 have d1 := hcs 1 _ rfl
 simp only [elSa, Nat.zero_add] at d1
 obtain ⟨b, off, cap, e, q0, -⟩ := ty_at ((SA.lo hr).1.sl okTy) ht
 rw [e] at d1
 exact ⟨b, off, cap, d1, q0⟩
theorem lit_ins (w : World) (l : List (Int × Int)) (cs : Array Value) (hc : cs = (cg elIn l).toArray) (h : l.length ≤ 1000) : SlG elIn (w.alloc (.cells cs 27)) (.slice (some ⟨w.heap.size, 0, none⟩) l.length l.length) l :=
 (own_lit okIn w l cs hc (Nat.le_trans h (by decide))).sl okIn
end Go.Proofs.YtalgjpmaafooeaaGreatDoor
/- Locks that are held: a row of six numbers, and how many of them count. -/
namespace Go.Proofs.YtalgjpmaafooeaaGreatDoor
open Go.ChangeShapes Go.WideShapes Go.ChangeAt Go.RowKit
open H (ix NewV)
def inI (s : Int) (l : List Int) : Bool := l.any fun x => decide (x = s)
theorem inI_iff {s : Int} {l : List Int} : inI s l = true ↔ s ∈ l := by
 unfold inI
 rw [List.any_eq_true]
 constructor
 · rintro ⟨x, hx, h⟩
   rw [← of_decide_eq_true h]
   exact hx
 · intro h
   exact ⟨s, h, decide_eq_true rfl⟩
def hlC (h : List Int) : List Value := [.int .i64 (h.length : Int), .int .i64 (h.getD 0 0), .int .i64 (h.getD 1 0), .int .i64 (h.getD 2 0), .int .i64 (h.getD 3 0), .int .i64 (h.getD 4 0), .int .i64 (h.getD 5 0)]
def hlV (h : List Int) : Value := .agg (hlC h).toArray
def elHl : El (List Int) := { t := 100, e := 99, n := 7, z := .agg #[.int .i64 0, .int .i64 0, .int .i64 0, .int .i64 0, .int .i64 0, .int .i64 0, .int .i64 0], b := 56, f := hlC }
theorem okHl : elHl.Ok where
 und := Tryz.underlying100
 info := by kernel_rfl
 len := fun _ => rfl
 one := fun x u hu => by simp only [elHl, hlC, List.mem_cons, List.not_mem_nil, or_false] at hu; rcases hu with rfl | rfl | rfl | rfl | rfl | rfl | rfl <;> rfl
 nb := fun x u hu => by simp only [elHl, hlC, List.mem_cons, List.not_mem_nil, or_false] at hu; rcases hu with rfl | rfl | rfl | rfl | rfl | rfl | rfl <;> exact nob_int _
 zlen := by kernel_rfl
 znb := fun u hu => by
  have : u ∈ [Value.int .i64 0, .int .i64 0, .int .i64 0, .int .i64 0, .int .i64 0, .int .i64 0, .int .i64 0] := by
   have e : elHl.z.cells = #[Value.int .i64 0, .int .i64 0, .int .i64 0, .int .i64 0, .int .i64 0, .int .i64 0, .int .i64 0] := by kernel_rfl
   rw [e] at hu
   exact hu
  simp at this; subst this; exact nob_int _
 bs := by decide
 pos := by decide
set_option maxRecDepth 100000 in
set_option maxHeartbeats 1000000 in
theorem indexI_any (w : World) (ad : Option Addr) (l : List Int) (cp : Nat) (hcap : l.length ≤ cp) (hmx : cp ≤ 1000) (hit : ∀ (i : Nat) (x : Int), l[i]? = some x → ∃ b off, ad = some ⟨b, off, none⟩ ∧ w.cell? ⟨b, off + i, none⟩ = some (.int .i64 x)) (s : Int) :
 Calls Tryz.prog 145 #[.slice ad l.length cp, .int .i64 s] w fun e w' => ∃ z : Int, e = .returned (.int .i64 z) ∧ decide (0 ≤ z) = inI s l ∧ w' = w := by
 have HI : Hid _ := hit
 clear hit
 go_enter Tryz.func145, Tryz.ntmps145
 go_wp2_with fail
 go_loop [8] (fun i => ∃ (k : Nat), i = .int .i64 (k : Int) ∧ k ≤ l.length ∧ inI s (l.take k) = false) (fun i => l.length - (intOf i).toNat)
 case atStart => exact ⟨0, rfl, by omega, rfl⟩
 case round =>
  obtain ⟨k, rfl, hk, hall⟩ := hrel
  have HA : Hid (inI s (l.take k) = false) := hall
  clear hall
  by_cases hlt : k < l.length
  · obtain ⟨x, hx⟩ : ∃ x, l[k]? = some x := ⟨_, List.getElem?_eq_getElem hlt⟩
    obtain ⟨b, off, rfl, hc⟩ := HI.out k x hx
    have HX : Hid (l[k]? = some x) := hx
    clear hx
    have hlt' : (k : Int) < (l.length : Int) := by omega
    by_cases hn : s = x
    · subst hn
      have HT : Hid (inI s l = true) := inI_iff.2 (List.mem_of_getElem? HX.out)
      go_wp2_with fail
      go_ret
      refine ⟨_, rfl, ?_, rfl⟩
      rw [HT.out]
      simp
    · have hn' : (s == x) = false := by simpa using hn
      have HT : Hid (inI s (l.take (k + 1)) = false) := by
       show _ = _
       rw [take_next l k x HX.out]
       have := HA.out
       unfold inI at this ⊢
       rw [List.any_append, this]
       simp [Ne.symm hn]
      clear hn
      go_wp2_with fail
      go_round
      case rel => exact ⟨k + 1, by go_num, by omega, HT.out⟩
      case measure => simp [intOf]; omega
  · have hkl : k = l.length := by omega
    subst hkl
    have HT : Hid (inI s l = false) := by
     have := HA.out
     rwa [List.take_length] at this
    go_wp2_with fail
    go_ret
    refine ⟨_, rfl, ?_, rfl⟩
    rw [HT.out]
    rfl
set_option maxRecDepth 100000 in
theorem containsI_any (w : World) (ad : Option Addr) (l : List Int) (cp : Nat) (hcap : l.length ≤ cp) (hmx : cp ≤ 1000) (hit : ∀ (i : Nat) (x : Int), l[i]? = some x → ∃ b off, ad = some ⟨b, off, none⟩ ∧ w.cell? ⟨b, off + i, none⟩ = some (.int .i64 x)) (s : Int) :
 Calls Tryz.prog 137 #[.slice ad l.length cp, .int .i64 s] w fun e w' => e = .returned (.bool (inI s l)) ∧ w' = w := by
 have I := indexI_any w ad l cp hcap hmx hit s
 clear hit
 generalize inI s l = b at *
 generalize l.length = n at *
 go_enter Tryz.func137, Tryz.ntmps137
 go_wp2_with fail
 refine I.mono ?_
 rintro e w1 ⟨z, rfl, hz, rfl⟩
 have HZ : Hid (decide (0 ≤ z) = b) := hz
 clear hz
 go_wp2_with fail
 go_ret
 rw [← HZ.out]
 exact ⟨rfl, rfl⟩
theorem slice_held (w : World) (B n : Nat) (h : n ≤ 6) : (Instr.sliceAt 97 (.pointer (some ⟨B, 1, none⟩)) none (some (.int .i64 (n : Int))) none).run Tryz.prog w = .ok (.slice (some ⟨B, 1, none⟩) n 6) w := by
 obtain rfl | rfl | rfl | rfl | rfl | rfl | rfl : n = 0 ∨ n = 1 ∨ n = 2 ∨ n = 3 ∨ n = 4 ∨ n = 5 ∨ n = 6 := by omega
 all_goals kernel_rfl
theorem held_get (h : List Int) (hl : h.length ≤ 6) (i : Nat) (x : Int) (hx : h[i]? = some x) : (hlC h)[1 + i]? = some (.int .i64 x) := by
 have hi := (List.getElem?_eq_some_iff.1 hx).1
 have e : h.getD i 0 = x := getD_of hx 0
 rw [← e]
 obtain rfl | rfl | rfl | rfl | rfl | rfl : i = 0 ∨ i = 1 ∨ i = 2 ∨ i = 3 ∨ i = 4 ∨ i = 5 := by omega
 all_goals rfl
set_option maxRecDepth 100000 in
set_option maxHeartbeats 1000000 in
theorem heldHas_any (w : World) (h : List Int) (hl : h.length ≤ 6) (x : Int) : Calls Tryz.prog 119 #[hlV h, .int .i64 x] w fun e w' => e = .returned (.bool (inI x h)) ∧ Fr no w w' := by
 have F : Fr no w (w.alloc (.cells (hlC h).toArray 99)) := (Fr.refl no w).alloc _ _
 have E : (w.alloc (.cells (hlC h).toArray 99)).heap[w.heap.size]? = some (.cells (hlC h).toArray 99 (0, 0)) := heap_alloc_new w _
 have z0 : (w.alloc (.cells (hlC h).toArray 99)).cell? ⟨w.heap.size, 0, none⟩ = some (.int .i64 (h.length : Int)) := cell_at (o := 0) E
 have C := containsI_any (w.alloc (.cells (hlC h).toArray 99)) (some ⟨w.heap.size, 1, none⟩) h 6 hl (by decide) (fun i y hy => ⟨_, _, rfl, by have := cell_at (o := 1 + i) E; rw [this]; simpa using held_get h hl i y hy⟩) x
 have SL := slice_held (w.alloc (.cells (hlC h).toArray 99)) w.heap.size h.length hl
 have HF : Hid _ := F
 unfold hlV
 clear E F
 generalize (hlC h).toArray = A at *
 generalize h.length = n at *
 generalize hW : w.alloc (.cells A 99) = W at *
 go_enter Tryz.func119, Tryz.ntmps119
 go_wp2_with fail
 refine C.mono ?_
 rintro e w1 ⟨rfl, rfl⟩
 go_wp2_with fail
 go_ret
 exact ⟨rfl, HF.out⟩
end Go.Proofs.YtalgjpmaafooeaaGreatDoor
