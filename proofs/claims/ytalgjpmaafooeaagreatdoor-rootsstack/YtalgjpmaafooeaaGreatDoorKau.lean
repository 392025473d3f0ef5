/- The classes that the statements ask about: one class Main with one method main. -/
import Derived.Test.YtalgjpmaafooeaaGreatDoorKat
namespace Go.Proofs.YtalgjpmaafooeaaGreatDoor
open Go.ChangeShapes Go.WideShapes Go.ChangeAt Go.RowKit
open H (ky Owns MapOf ix NewV)
def mainN (lo st : Int) (cd : List (Int × Int)) : Mt := ⟨smain, [], ⟨0, e0⟩, lo, st, cd, []⟩
def mainK (lo st : Int) (cd : List (Int × Int)) (pool : List Cs) : Cl := ⟨sMain, e0, pool, [], [mainN lo st cd]⟩
end Go.Proofs.YtalgjpmaafooeaaGreatDoor
/- Whether all of a program is accepted. -/
namespace Go.Proofs.YtalgjpmaafooeaaGreatDoor
open Go.ChangeShapes Go.WideShapes Go.ChangeAt Go.RowKit
open H (ky Owns MapOf ix NewV obj fault)
structure Asked (lo st : Int) (ts : List Ty) (cd : List (Int × Int)) (pool : List Cs) (fuel : Nat) (res : Int × Ps) : Prop where
 link : linkE [mainK lo st cd pool] = 0
 fit : FitC (mainK lo st cd pool)
 low : Low lo ts
 pos : 0 < cd.length
 few : cd.length ≤ 200
 ops : ∀ x ∈ cd, x.1 ∈ plainOps ∨ x.1 = 33 ∨ x.1 = 25 ∧ ∃ (i : Nat) (y : Cs), x.2 = (i : Int) ∧ pool[i]? = some y ∧ y.c = sMain
 run : settleP st cd (cd.map fun x => ruleP x.1) fuel 0 (beg sMain ts cd.length) = some res
variable {lo st : Int} {ts : List Ty} {cd : List (Int × Int)} {pool : List Cs} {fuel : Nat} {res : Int × Ps}
theorem Asked.plain (h : Asked lo st ts cd pool fuel res) : Plain1 (mainK lo st cd pool) (mainN lo st cd) ts :=
 ⟨rfl, rfl, h.low, rfl, h.pos, h.few, fun x hx => (h.ops x hx).imp id (Or.imp (fun e => ⟨e, rfl⟩) id)⟩
theorem Prg.fitQ {w : World} {p : Nat} (P : Prg w p (allC [mainK lo st cd pool]) (newC [mainK lo st cd pool]).2.2) (q : Nat) (hq : w.cell? ⟨p, 0, none⟩ = some (.pointer (some ⟨q, 0, none⟩))) : FitQ w (.pointer (some ⟨q, 0, none⟩)) := by
 obtain ⟨w0, hp, m, v, X, ch, h1, h2⟩ := P.ex
 have h3 : w.cell? ⟨p, 0, none⟩ = some (.pointer (some ⟨hp, 0, none⟩)) := cell_at (o := 0) h1.pb
 rw [hq] at h3
 simp only [Option.some.injEq, Value.pointer.injEq, Addr.mk.injEq, and_true] at h3
 subst h3
 refine fitQ_of w q _ _ h2 ?_ (show 3 ≤ 1000 by decide) (by kernel_rfl)
 exact P.fine
def err3 (z : Int) (i : Nat) : Int := if i = 2 then z else 0
theorem Asked.meth (h : Asked lo st ts cd pool fuel res) (w : World) (p : Nat) (P : Prg w p (allC [mainK lo st cd pool]) (newC [mainK lo st cd pool]).2.2) (hsm : ∀ c ∈ allC [mainK lo st cd pool], SmallC c) (tr : Tr w) :
 Calls Tryz.prog 29 #[.pointer (some ⟨p, 0, none⟩), .string sMain, .string smain] w fun e w' => ∃ S C c v, e = .returned (.tuple #[v, .int .i64 res.1]) ∧ (res.1 = 0 → v = .slice (some ⟨S, 0, none⟩) cd.length cd.length ∧ Fl w' S C c cd.length res.2.1 res.2.2 ∧ w.heap.size ≤ S) ∧ (res.1 ≠ 0 → v = .slice none 0 0) ∧ Fr no w w' :=
 vMethod_any w p (allC [mainK lo st cd pool]) _ P hsm sMain (by decide) 2 (show ix sMain [obj, fault, sMain] = some 2 by decide) (mainN lo st cd) ts h.plain tr P.fitQ fuel res h.run
end Go.Proofs.YtalgjpmaafooeaaGreatDoor
/- Rows of instructions: what is asked of them. -/
namespace Go.Proofs.YtalgjpmaafooeaaGreatDoor
open Go.ChangeShapes Go.WideShapes Go.ChangeAt Go.RowKit
open H (ky Owns MapOf ix NewV)
theorem fit_main (lo st : Int) (cd : List (Int × Int)) (pool : List Cs) (hp : ∀ x ∈ pool, fitS x.c ∧ fitS x.m) : FitC (mainK lo st cd pool) := by
 refine ⟨fitS_lit (by decide), fitS_lit (by decide), hp, fun x hx => ?_, fun m hm => ?_⟩
 · simp [mainK] at hx
 · simp only [mainK, List.mem_singleton] at hm
   subst hm
   exact ⟨fitS_lit (by decide), fitS_lit (by decide), fun t ht => by simp [mainN] at ht⟩
theorem firstE_all {α : Type} (ask : α → List α → Nat) (l : List α) : ∀ ahead, (∀ x ∈ l, ∀ a, ask x a = 0) → firstE ask ahead l = 0 := by
 induction l with
 | nil => intro _ _; rfl
 | cons x r ih =>
  intro ahead h
  unfold firstE
  rw [if_neg (by rw [h x (by simp)]; simp)]
  exact ih _ (fun y hy a => h y (by simp [hy]) a)
theorem link_main (lo st : Int) (cd : List (Int × Int)) (pool : List Cs) (h1 : 1 ≤ lo ∧ lo ≤ 32 ∧ 0 ≤ st ∧ st ≤ 64) (h0 : 0 < cd.length) (h2 : cd.length ≤ 200) (hpl : eachE 128 (fun x _ => ckCs x) pool = 0) (hi : ∀ x ∈ cd, ckIns pool lo cd.length x = 0) (hl : has (cd.getD (cd.length - 1) (0, 0)).1 1 = true)
 (hpn : firstN (constE [H.obj, H.fault, sMain] (layAll (allC [mainK lo st cd pool]) [0, 0, 0])) pool = 0) : linkE [mainK lo st cd pool] = 0 := by
 have hb : ckBody pool (mainN lo st cd) = 0 := by
  unfold ckBody
  rw [if_pos (by simp [mainN]; omega), if_neg (show ¬ (mainN lo st cd).code.length = 0 from fun e => by have : cd.length = 0 := e; omega)]
  have he : eachE 200 (fun x _ => ckIns pool (mainN lo st cd).lo (mainN lo st cd).code.length x) (mainN lo st cd).code = 0 := by
   unfold eachE
   rw [if_neg (show ¬ 200 < (mainN lo st cd).code.length from fun e => by have : 200 < cd.length := e; omega)]
   exact firstE_all _ _ _ (fun x hx _ => hi x hx)
  rw [if_neg (by rw [he]; simp)]
  show (if has (cd.getD (cd.length - 1) (0, 0)).1 1 = true then eachE 16 (fun h _ => ckHd pool cd.length h) [] else 54) = 0
  rw [if_pos hl]
  rfl
 have hf : ckFace (mainN lo st cd) [] = 0 := by
  show (if isName smain = true then (if eachE 6 ckTy [] ≠ 0 then eachE 6 ckTy [] else if isType ⟨0, e0⟩ true = true then (if ([] : List Mt).any (fun y => decide (y.name = smain)) = true then 53 else 0) else 50) else 50) = 0
  decide +kernel
 have hc : chk (mainK lo st cd pool) = 0 := by
  show (if isName sMain = true ∧ (e0 = e0 ∨ isName e0 = true) then (if eachE 128 (fun x _ => ckCs x) pool ≠ 0 then eachE 128 (fun x _ => ckCs x) pool else if eachE 8 ckFd [] ≠ 0 then eachE 8 ckFd [] else eachE 12 (ckMt pool) [mainN lo st cd]) else 50) = 0
  rw [if_pos (show isName sMain = true ∧ (e0 = e0 ∨ isName e0 = true) by decide +kernel), if_neg (by rw [hpl]; simp), if_neg (by decide)]
  show eachE 12 (ckMt pool) [mainN lo st cd] = 0
  unfold eachE
  rw [if_neg (by simp)]
  show (if ckMt pool (mainN lo st cd) [] ≠ 0 then ckMt pool (mainN lo st cd) [] else firstE (ckMt pool) ([] ++ [mainN lo st cd]) []) = 0
  have hm : ckMt pool (mainN lo st cd) [] = 0 := by
   unfold ckMt
   rw [hf, if_neg (by simp)]
   exact hb
  rw [hm, if_neg (by simp)]
  rfl
 have hn : newC [mainK lo st cd pool] = (0, [H.obj, H.fault, sMain], [0, 0, 0]) := by kernel_rfl
 have hm : firstN (memE (allC [mainK lo st cd pool]) [0, 0, 0]) (List.range (allC [mainK lo st cd pool]).length) = 0 := by kernel_rfl
 have hp : firstN (poolE (allC [mainK lo st cd pool]) (layAll (allC [mainK lo st cd pool]) [0, 0, 0])) (List.range (allC [mainK lo st cd pool]).length) = 0 := by
  show (if poolE (allC [mainK lo st cd pool]) (layAll (allC [mainK lo st cd pool]) [0, 0, 0]) 0 ≠ 0 then _ else if poolE (allC [mainK lo st cd pool]) (layAll (allC [mainK lo st cd pool]) [0, 0, 0]) 1 ≠ 0 then _ else if poolE (allC [mainK lo st cd pool]) (layAll (allC [mainK lo st cd pool]) [0, 0, 0]) 2 ≠ 0 then _ else 0) = 0
  rw [if_neg (show ¬ poolE (allC [mainK lo st cd pool]) (layAll (allC [mainK lo st cd pool]) [0, 0, 0]) 0 ≠ 0 from fun h => h rfl), if_neg (show ¬ poolE (allC [mainK lo st cd pool]) (layAll (allC [mainK lo st cd pool]) [0, 0, 0]) 1 ≠ 0 from fun h => h rfl), if_neg]
  have : poolE (allC [mainK lo st cd pool]) (layAll (allC [mainK lo st cd pool]) [0, 0, 0]) 2 = 0 := hpn
  rw [this]
  simp
 have hM : mainE (allC [mainK lo st cd pool]) (layAll (allC [mainK lo st cd pool]) [0, 0, 0]) = 0 := by kernel_rfl
 unfold linkE
 have hfc : firstN chk [mainK lo st cd pool] = 0 := by
  show (if chk (mainK lo st cd pool) ≠ 0 then chk (mainK lo st cd pool) else 0) = 0
  rw [hc, if_neg (by simp)]
 rw [if_neg (by rw [hfc]; simp), hn]
 simp only
 rw [if_neg (by simp)]
 unfold checkE
 rw [if_neg (by rw [hm]; simp), if_neg (by rw [hp]; simp), hM]
 rfl
end Go.Proofs.YtalgjpmaafooeaaGreatDoor
/- Straight code: its flow settles along it. -/
namespace Go.Proofs.YtalgjpmaafooeaaGreatDoor
open Go.ChangeShapes Go.WideShapes Go.ChangeAt Go.RowKit
open H (ky Owns MapOf ix NewV)
structure AtI (n : Nat) (p : Ps) (i : Nat) (x : Stt) : Prop where
 l1 : p.1.length = n
 l2 : p.2.length = n
 lt : i < n
 cur : p.1[i]? = some x
 rest : ∀ j, i < j → j < n → p.1[j]? = some zS
 mks : ∀ j, j < n → p.2[j]? = some (decide (j = i))
structure OkL (ins : Int × Int) (x : Stt) : Prop where
 rr : x.r = true
 fit : ∀ t ∈ (ruleP ins.1).tk, t.k = 1 ∨ t.k = 2 ∨ t.k = 6
 n38 : rd38 ins x.lo
 n7 : ins.1 ≠ 7
 h4 : ins.1 = 4 → 0 ≤ ins.2 ∧ ins.2 < x.lo.length
 h5 : ins.1 = 5 → 0 ≤ ins.2 ∧ ins.2 < x.lo.length ∧ (ruleP ins.1).tk.length = 1
 few : (ruleP ins.1).tk.length ≤ 1000 ∧ (ruleP ins.1).pt.length ≤ 1000 ∧ (runS (ruleP ins.1) ins x).lo.length ≤ 1000 ∧ (runS (ruleP ins.1) ins x).st.length ≤ 1000
def lineE (K : Int) : List (Int × Int) → Stt → Int
 | [], _ => 0
 | ins :: l, x => if runErr (ruleP ins.1) ins x ≠ 0 then runErr (ruleP ins.1) ins x else if K < (runS (ruleP ins.1) ins x).st.length then 81 else lineE K l (runS (ruleP ins.1) ins x)
def lineOk (K : Int) : List (Int × Int) → Stt → Prop
 | [], x => x.r = true ∧ x.lo.length ≤ 1000 ∧ x.st.length ≤ 1000
 | ins :: l, x => OkL ins x ∧ has ins.1 1 = false ∧ has ins.1 2 = false ∧ (runErr (ruleP ins.1) ins x = 0 → ¬ K < (runS (ruleP ins.1) ins x).st.length → lineOk K l (runS (ruleP ins.1) ins x))
theorem contains_at {n : Nat} {p : Ps} {i : Nat} {x : Stt} (h : AtI n p i x) : p.2.contains true = true := by
 rw [List.contains_iff_mem]
 exact List.mem_of_getElem? (i := i) (by rw [h.mks i h.lt]; simp)
theorem setMark {n i : Nat} {c : List Bool} (hl : c.length = n) (hi : i < n) (h : ∀ j, j < n → c[j]? = some (decide (j = i))) : ∀ j, j < n → (c.set i false)[j]? = some false := by
 intro j hj
 by_cases e : j = i
 · subst e
   rw [List.getElem?_set_self (by omega)]
 · rw [List.getElem?_set_ne (fun e' => e e'.symm), h j hj]
   simp [e]
theorem AtI.step {n : Nat} {p : Ps} {i : Nat} {x : Stt} (h : AtI n p i x) (hi : i + 1 < n) (y : Stt) : AtI n (p.1.set (i + 1) y, (p.2.set i false).set (i + 1) true) (i + 1) y := by
 refine ⟨by simp [h.l1], by simp [h.l2], hi, ?_, fun j h1 h2 => ?_, fun j hj => ?_⟩
 · rw [List.getElem?_set_self (by rw [h.l1]; exact hi)]
 · rw [List.getElem?_set_ne (by omega)]
   exact h.rest j (by omega) h2
 · by_cases e : j = i + 1
   · subst e
     rw [List.getElem?_set_self (by rw [List.length_set, h.l2]; exact hi)]
     simp
   · rw [List.getElem?_set_ne (fun e' => e e'.symm), setMark h.l2 h.lt h.mks j hj]
     simp [e]
theorem okS_of (K : Int) (cd : List (Int × Int)) (ins : Int × Int) (i : Nat) (p : Ps) (x : Stt) (h : OkL ins x) (h1 : has ins.1 1 = false → i + 1 < cd.length ∧ p.1.getD (i + 1) zS = zS) (h2 : has ins.1 2 = false) : OkS K cd (ruleP ins.1) ins i p x :=
 ⟨h.rr, h.fit, h.n38, h.n7, h.h4, h.h5, h.few, fun e => ⟨(h1 e).1, by rw [(h1 e).2]; intro h; exact absurd h (by decide)⟩, fun e => by rw [h2] at e; cases e⟩
theorem at_beg (kn : ByteArray) (ts : List Ty) (n : Nat) (hn : 0 < n) : AtI n (beg kn ts n) 0 ⟨true, ⟨4, kn⟩ :: ts, []⟩ := by
 refine ⟨by simp [beg]; omega, by simp [beg]; omega, hn, rfl, fun j h1 h2 => ?_, fun j hj => ?_⟩
 · obtain ⟨k, rfl⟩ : ∃ k, j = k + 1 := ⟨j - 1, by omega⟩
   show (List.replicate (n - 1) (⟨false, [], []⟩ : Stt))[k]? = _
   rw [List.getElem?_replicate, if_pos (by omega)]
   rfl
 · cases j with
   | zero => rfl
   | succ k =>
    show (List.replicate (n - 1) false)[k]? = _
    rw [List.getElem?_replicate, if_pos (by omega)]
    simp
end Go.Proofs.YtalgjpmaafooeaaGreatDoor
