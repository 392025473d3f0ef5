/- Whether all of a program is accepted. -/
import Derived.Test.YtpfkigoffllieaaGreatDoorJbc
namespace Go.Proofs.YtpfkigoffllieaaGreatDoor
open Go.ChangeShapes Go.WideShapes Go.ChangeAt Go.RowKit
open H (ky Owns MapOf ix NewV obj fault)

/-- What is asked of a row of instructions: it may be linked, and its flow settles. -/
structure Asked (lo st : Int) (ts : List Ty) (cd : List (Int × Int)) (pool : List Cs) (fuel : Nat) (res : Int × Ps) : Prop where
  link : linkE [mainK lo st cd pool] = 0
  fit : FitC (mainK lo st cd pool)
  low : Low lo ts
  pos : 0 < cd.length
  few : cd.length ≤ 200
  ops : ∀ x ∈ cd, x.1 ∈ plainOps ∨ x.1 = 33
  run : settleP st cd (cd.map fun x => ruleP x.1) fuel 0 (beg sMain ts cd.length) = some res

variable {lo st : Int} {ts : List Ty} {cd : List (Int × Int)} {pool : List Cs} {fuel : Nat} {res : Int × Ps}

theorem Asked.plain (h : Asked lo st ts cd pool fuel res) : Plain1 (mainK lo st cd pool) (mainN lo st cd) ts :=
  ⟨rfl, rfl, h.low, rfl, h.pos, h.few, fun x hx => (h.ops x hx).imp id (fun e => ⟨e, rfl⟩)⟩

/-- Below a program's hierarchy Main is of Object. -/
theorem Prg.fitQ {w : World} {p : Nat} (P : Prg w p (allC [mainK lo st cd pool]) (newC [mainK lo st cd pool]).2.2) (q : Nat) (hq : w.cell? ⟨p, 0, none⟩ = some (.pointer (some ⟨q, 0, none⟩))) : FitQ w (.pointer (some ⟨q, 0, none⟩)) := by
  obtain ⟨w0, hp, m, v, X, ch, h1, h2⟩ := P.ex
  have h3 : w.cell? ⟨p, 0, none⟩ = some (.pointer (some ⟨hp, 0, none⟩)) := cell_at (o := 0) h1.pb
  rw [hq] at h3
  simp only [Option.some.injEq, Value.pointer.injEq, Addr.mk.injEq, and_true] at h3
  subst h3
  refine fitQ_of w q _ _ h2 ?_ (show 3 ≤ 1000 by decide) (by kernel_rfl)
  exact P.fine

def err3 (z : Int) (i : Nat) : Int := if i = 2 then z else 0

theorem Asked.all (h : Asked lo st ts cd pool fuel res) (w : World) (p : Nat) (P : Prg w p (allC [mainK lo st cd pool]) (newC [mainK lo st cd pool]).2.2) (hsm : ∀ c ∈ allC [mainK lo st cd pool], SmallC c) (tr : Tr w) :
    Calls Tryz.prog 19 #[.pointer (some ⟨p, 0, none⟩)] w fun e w' => e = .returned (.int .i64 res.1) ∧ Fr no w w' := by
  have len3 : (allC [mainK lo st cd pool]).length = 3 := rfl
  refine (all_any w p (allC [mainK lo st cd pool]) _ P hsm tr P.fitQ (err3 res.1) (fun i hi => ?_) (fun i hi => ?_)).mono ?_
  · rw [len3] at hi
    match i, hi with
    | 0, _ => exact ⟨show ix obj [obj, fault, sMain] = some 0 by decide, show obj.size ≤ 1099511627776 by decide, show obj ≠ ⟨#[]⟩ by decide⟩
    | 1, _ => exact ⟨show ix fault [obj, fault, sMain] = some 1 by decide, show fault.size ≤ 1099511627776 by decide, show fault ≠ ⟨#[]⟩ by decide⟩
    | 2, _ => exact ⟨show ix sMain [obj, fault, sMain] = some 2 by decide, show sMain.size ≤ 1099511627776 by decide, show sMain ≠ ⟨#[]⟩ by decide⟩
  · rw [len3] at hi
    match i, hi with
    | 0, _ => exact .inl ⟨rfl, rfl⟩
    | 1, _ => exact .inl ⟨rfl, rfl⟩
    | 2, _ => exact .inr ⟨mainN lo st cd, ts, fuel, res, h.plain, h.run, rfl⟩
  · rintro e w' ⟨z, rfl, fr, hz⟩
    refine ⟨?_, fr⟩
    rw [len3] at hz
    rcases hz with ⟨h0, rfl⟩ | ⟨i, hi, hne, -, rfl⟩
    · rw [← h0 2 (by omega)]; rfl
    · have : i = 2 := by
        unfold err3 at hne
        by_cases e : i = 2
        · exact e
        · rw [if_neg e] at hne; exact absurd rfl hne
      rw [this]; rfl

theorem Asked.meth (h : Asked lo st ts cd pool fuel res) (w : World) (p : Nat) (P : Prg w p (allC [mainK lo st cd pool]) (newC [mainK lo st cd pool]).2.2) (hsm : ∀ c ∈ allC [mainK lo st cd pool], SmallC c) (tr : Tr w) :
    Calls Tryz.prog 18 #[.pointer (some ⟨p, 0, none⟩), .string sMain, .string smain] w fun e w' => ∃ S C c v, e = .returned (.tuple #[v, .int .i64 res.1]) ∧ (res.1 = 0 → v = .slice (some ⟨S, 0, none⟩) cd.length cd.length ∧ Fl w' S C c cd.length res.2.1 res.2.2) ∧ (res.1 ≠ 0 → v = .slice none 0 0) ∧ Fr no w w' :=
  vMethod_any w p (allC [mainK lo st cd pool]) _ P hsm sMain (by decide) 2 (show ix sMain [obj, fault, sMain] = some 2 by decide) (mainN lo st cd) ts h.plain tr P.fitQ fuel res h.run

set_option maxRecDepth 100000 in
set_option maxHeartbeats 2000000 in
theorem accepted_any (w : World) (T : Tb w) (R : Tr w) (ca pa : Option Addr) (cn cc pn pc : Nat) (cd : List (Int × Int)) (pool : List Cs) (hc : SlG elIn w (.slice ca cn cc) cd) (hp : SlG elCs w (.slice pa pn pc) pool) (fuel : Nat) (res : Int × Ps) (h : Asked 3 3 [top, top] cd pool fuel res) :
    Calls Tryz.prog 11 #[.slice ca cn cc, .slice pa pn pc] w fun e w' => e = .returned (.tuple #[.bool (decide (res.1 = 0)), .bool true]) ∧ Fr no w w' := by
  have O := vOf_any w ca pa cn cc pn pc cd pool hc hp
  have HK : Hid (∀ w', Fr no w w' → Tb w' ∧ Tr w') := fun w' hf => ⟨T.kept hf, Tr.kept R hf⟩
  have HA : Hid _ := h
  clear T R hc hp h
  obtain ⟨z, ps⟩ := res
  go_enter Tryz.func11, Tryz.ntmps11
  go_wp2_with fail
  refine O.mono ?_
  rintro e w1 ⟨v, rfl, cs1, f1⟩
  have L := link_any w1 (HK.out w1 f1).1 (HK.out w1 f1).2 v _ cs1 (fun c hc => by simp only [List.mem_singleton] at hc; subst hc; exact HA.out.fit) (by simp)
  rw [HA.out.link] at L
  clear O cs1
  go_wp2_with fail
  refine L.mono ?_
  rintro e w2 ⟨q, rfl, la, f2⟩
  obtain ⟨p, rfl, P, hsm⟩ := la.2 HA.out.link
  have F2 : Fr no w w2 := f1.new f2 (fun _ _ f => f)
  have AL := HA.out.all w2 p P hsm (HK.out w2 F2).2
  clear L la P hsm f1 f2
  go_wp2_with fail
  refine AL.mono ?_
  rintro e w3 ⟨rfl, f3⟩
  clear AL
  by_cases hz : z = 0
  · subst hz
    go_wp2_with fail
    go_ret2
    exact ⟨by kernel_rfl, F2.new f3 (fun _ _ f => f)⟩
  · have hz' : decide (z = 0) = false := decide_eq_false hz
    go_wp2_with fail
    go_ret2
    exact ⟨by simp [hz], F2.new f3 (fun _ _ f => f)⟩
end Go.Proofs.YtpfkigoffllieaaGreatDoor

/- Rows of instructions: what is asked of them. -/
namespace Go.Proofs.YtpfkigoffllieaaGreatDoor
open Go.ChangeShapes Go.WideShapes Go.ChangeAt Go.RowKit
open H (ky Owns MapOf ix NewV)

theorem fit_main (lo st : Int) (cd : List (Int × Int)) (pool : List Cs) (hp : ∀ x ∈ pool, fitS x.c ∧ fitS x.m) : FitC (mainK lo st cd pool) := by
  refine ⟨fitS_lit (by decide), fitS_lit (by decide), hp, fun x hx => ?_, fun m hm => ?_⟩
  · simp [mainK] at hx
  · simp only [mainK, List.mem_singleton] at hm
    subst hm
    exact ⟨fitS_lit (by decide), fitS_lit (by decide), fun t ht => by simp [mainN] at ht⟩

theorem firstE_all {α : Type} (ask : α → List α → Nat) (l : List α) : ∀ ahead, (∀ x ∈ l, ∀ a, ask x a = 0) → firstE ask ahead l = 0 := by
  induction l with
  | nil => intro _ _; rfl
  | cons x r ih =>
    intro ahead h
    unfold firstE
    rw [if_neg (by rw [h x (by simp)]; simp)]
    exact ih _ (fun y hy a => h y (by simp [hy]) a)

/-- Code whose instructions may be, the last of which stops, is linked. -/
theorem link_main (lo st : Int) (cd : List (Int × Int)) (pool : List Cs) (h1 : 1 ≤ lo ∧ lo ≤ 32 ∧ 0 ≤ st ∧ st ≤ 64) (h0 : 0 < cd.length) (h2 : cd.length ≤ 200) (hpl : eachE 128 (fun x _ => ckCs x) pool = 0) (hi : ∀ x ∈ cd, ckIns pool lo cd.length x = 0) (hl : has (cd.getD (cd.length - 1) (0, 0)).1 1 = true)
    (hpn : firstN (constE [H.obj, H.fault, sMain] (layAll (allC [mainK lo st cd pool]) [0, 0, 0])) pool = 0) : linkE [mainK lo st cd pool] = 0 := by
  have hb : ckBody pool (mainN lo st cd) = 0 := by
    unfold ckBody
    rw [if_pos (by simp [mainN]; omega), if_neg (show ¬ (mainN lo st cd).code.length = 0 from fun e => by have : cd.length = 0 := e; omega)]
    have he : eachE 200 (fun x _ => ckIns pool (mainN lo st cd).lo (mainN lo st cd).code.length x) (mainN lo st cd).code = 0 := by
      unfold eachE
      rw [if_neg (show ¬ 200 < (mainN lo st cd).code.length from fun e => by have : 200 < cd.length := e; omega)]
      exact firstE_all _ _ _ (fun x hx _ => hi x hx)
    rw [if_neg (by rw [he]; simp)]
    show (if has (cd.getD (cd.length - 1) (0, 0)).1 1 = true then eachE 16 (fun h _ => ckHd pool cd.length h) [] else 54) = 0
    rw [if_pos hl]
    rfl
  have hf : ckFace (mainN lo st cd) [] = 0 := by
    show (if isName smain = true then (if eachE 6 ckTy [] ≠ 0 then eachE 6 ckTy [] else if isType ⟨0, e0⟩ true = true then (if ([] : List Mt).any (fun y => decide (y.name = smain)) = true then 53 else 0) else 50) else 50) = 0
    decide +kernel
  have hc : chk (mainK lo st cd pool) = 0 := by
    show (if isName sMain = true ∧ (e0 = e0 ∨ isName e0 = true) then (if eachE 128 (fun x _ => ckCs x) pool ≠ 0 then eachE 128 (fun x _ => ckCs x) pool else if eachE 8 ckFd [] ≠ 0 then eachE 8 ckFd [] else eachE 12 (ckMt pool) [mainN lo st cd]) else 50) = 0
    rw [if_pos (show isName sMain = true ∧ (e0 = e0 ∨ isName e0 = true) by decide +kernel), if_neg (by rw [hpl]; simp), if_neg (by decide)]
    show eachE 12 (ckMt pool) [mainN lo st cd] = 0
    unfold eachE
    rw [if_neg (by simp)]
    show (if ckMt pool (mainN lo st cd) [] ≠ 0 then ckMt pool (mainN lo st cd) [] else firstE (ckMt pool) ([] ++ [mainN lo st cd]) []) = 0
    have hm : ckMt pool (mainN lo st cd) [] = 0 := by
      unfold ckMt
      rw [hf, if_neg (by simp)]
      exact hb
    rw [hm, if_neg (by simp)]
    rfl
  have hn : newC [mainK lo st cd pool] = (0, [H.obj, H.fault, sMain], [0, 0, 0]) := by kernel_rfl
  have hm : firstN (memE (allC [mainK lo st cd pool]) [0, 0, 0]) (List.range (allC [mainK lo st cd pool]).length) = 0 := by kernel_rfl
  have hp : firstN (poolE (allC [mainK lo st cd pool]) (layAll (allC [mainK lo st cd pool]) [0, 0, 0])) (List.range (allC [mainK lo st cd pool]).length) = 0 := by
    show (if poolE (allC [mainK lo st cd pool]) (layAll (allC [mainK lo st cd pool]) [0, 0, 0]) 0 ≠ 0 then _ else if poolE (allC [mainK lo st cd pool]) (layAll (allC [mainK lo st cd pool]) [0, 0, 0]) 1 ≠ 0 then _ else if poolE (allC [mainK lo st cd pool]) (layAll (allC [mainK lo st cd pool]) [0, 0, 0]) 2 ≠ 0 then _ else 0) = 0
    rw [if_neg (show ¬ poolE (allC [mainK lo st cd pool]) (layAll (allC [mainK lo st cd pool]) [0, 0, 0]) 0 ≠ 0 from fun h => h rfl), if_neg (show ¬ poolE (allC [mainK lo st cd pool]) (layAll (allC [mainK lo st cd pool]) [0, 0, 0]) 1 ≠ 0 from fun h => h rfl), if_neg]
    have : poolE (allC [mainK lo st cd pool]) (layAll (allC [mainK lo st cd pool]) [0, 0, 0]) 2 = 0 := hpn
    rw [this]
    simp
  have hM : mainE (allC [mainK lo st cd pool]) (layAll (allC [mainK lo st cd pool]) [0, 0, 0]) = 0 := by kernel_rfl
  unfold linkE
  have hfc : firstN chk [mainK lo st cd pool] = 0 := by
    show (if chk (mainK lo st cd pool) ≠ 0 then chk (mainK lo st cd pool) else 0) = 0
    rw [hc, if_neg (by simp)]
  rw [if_neg (by rw [hfc]; simp), hn]
  simp only
  rw [if_neg (by simp)]
  unfold checkE
  rw [if_neg (by rw [hm]; simp), if_neg (by rw [hp]; simp), hM]
  rfl
end Go.Proofs.YtpfkigoffllieaaGreatDoor

/- Straight code: its flow settles along it. -/
namespace Go.Proofs.YtpfkigoffllieaaGreatDoor
open Go.ChangeShapes Go.WideShapes Go.ChangeAt Go.RowKit
open H (ky Owns MapOf ix NewV)

/-- The flow stands at i, in state x; what is behind isn't reached. -/
structure AtI (n : Nat) (p : Ps) (i : Nat) (x : Stt) : Prop where
  l1 : p.1.length = n
  l2 : p.2.length = n
  lt : i < n
  cur : p.1[i]? = some x
  rest : ∀ j, i < j → j < n → p.1[j]? = some zS
  mks : ∀ j, j < n → p.2[j]? = some (decide (j = i))

/-- What is asked of an instruction in a state. -/
structure OkL (ins : Int × Int) (x : Stt) : Prop where
  rr : x.r = true
  fit : ∀ t ∈ (ruleP ins.1).tk, t.k = 1 ∨ t.k = 2 ∨ t.k = 6
  n38 : rd38 ins x.lo
  n7 : ins.1 ≠ 7
  h4 : ins.1 = 4 → 0 ≤ ins.2 ∧ ins.2 < x.lo.length
  h5 : ins.1 = 5 → 0 ≤ ins.2 ∧ ins.2 < x.lo.length ∧ (ruleP ins.1).tk.length = 1
  few : (ruleP ins.1).tk.length ≤ 1000 ∧ (ruleP ins.1).pt.length ≤ 1000 ∧ (runS (ruleP ins.1) ins x).lo.length ≤ 1000 ∧ (runS (ruleP ins.1) ins x).st.length ≤ 1000

/-- The first error along straight code. -/
def lineE (K : Int) : List (Int × Int) → Stt → Int
  | [], _ => 0
  | ins :: l, x => if runErr (ruleP ins.1) ins x ≠ 0 then runErr (ruleP ins.1) ins x else if K < (runS (ruleP ins.1) ins x).st.length then 81 else lineE K l (runS (ruleP ins.1) ins x)
/-- That what is asked holds along it, as far as it comes. -/
def lineOk (K : Int) : List (Int × Int) → Stt → Prop
  | [], x => x.r = true ∧ x.lo.length ≤ 1000 ∧ x.st.length ≤ 1000
  | ins :: l, x => OkL ins x ∧ has ins.1 1 = false ∧ has ins.1 2 = false ∧ (runErr (ruleP ins.1) ins x = 0 → ¬ K < (runS (ruleP ins.1) ins x).st.length → lineOk K l (runS (ruleP ins.1) ins x))

theorem contains_at {n : Nat} {p : Ps} {i : Nat} {x : Stt} (h : AtI n p i x) : p.2.contains true = true := by
  rw [List.contains_iff_mem]
  exact List.mem_of_getElem? (i := i) (by rw [h.mks i h.lt]; simp)

theorem setMark {n i : Nat} {c : List Bool} (hl : c.length = n) (hi : i < n) (h : ∀ j, j < n → c[j]? = some (decide (j = i))) : ∀ j, j < n → (c.set i false)[j]? = some false := by
  intro j hj
  by_cases e : j = i
  · subst e
    rw [List.getElem?_set_self (by omega)]
  · rw [List.getElem?_set_ne (fun e' => e e'.symm), h j hj]
    simp [e]

theorem AtI.step {n : Nat} {p : Ps} {i : Nat} {x : Stt} (h : AtI n p i x) (hi : i + 1 < n) (y : Stt) : AtI n (p.1.set (i + 1) y, (p.2.set i false).set (i + 1) true) (i + 1) y := by
  refine ⟨by simp [h.l1], by simp [h.l2], hi, ?_, fun j h1 h2 => ?_, fun j hj => ?_⟩
  · rw [List.getElem?_set_self (by rw [h.l1]; exact hi)]
  · rw [List.getElem?_set_ne (by omega)]
    exact h.rest j (by omega) h2
  · by_cases e : j = i + 1
    · subst e
      rw [List.getElem?_set_self (by rw [List.length_set, h.l2]; exact hi)]
      simp
    · rw [List.getElem?_set_ne (fun e' => e e'.symm), setMark h.l2 h.lt h.mks j hj]
      simp [e]

theorem okS_of (K : Int) (cd : List (Int × Int)) (ins : Int × Int) (i : Nat) (p : Ps) (x : Stt) (h : OkL ins x) (h1 : has ins.1 1 = false → i + 1 < cd.length ∧ p.1.getD (i + 1) zS = zS) (h2 : has ins.1 2 = false) : OkS K cd (ruleP ins.1) ins i p x :=
  ⟨h.rr, h.fit, h.n38, h.n7, h.h4, h.h5, h.few, fun e => ⟨(h1 e).1, by rw [(h1 e).2]; intro h; exact absurd h (by decide)⟩, fun e => by rw [h2] at e; cases e⟩

/-- Straight code, up to a return of nothing. -/
theorem settle_line (K : Int) (cd : List (Int × Int)) : ∀ (l : List (Int × Int)) (i : Nat) (x : Stt) (p : Ps) (fuel : Nat), cd.drop i = l ++ [(33, 0)] → AtI cd.length p i x → lineOk K l x → l.length + 2 ≤ fuel →
    ∃ ps, settleP K cd (cd.map fun y => ruleP y.1) fuel i p = some (lineE K l x, ps) := by
  intro l
  induction l with
  | nil =>
    intro i x p fuel hcd h hok hf
    obtain ⟨n, rfl⟩ : ∃ n, fuel = n + 2 := ⟨fuel - 2, by simp at hf; omega⟩
    have hins : cd[i]? = some (33, 0) := by
      have : (cd.drop i)[0]? = some (33, 0) := by rw [hcd]; rfl
      rwa [List.getElem?_drop, Nat.add_zero] at this
    have hr : (cd.map fun y => ruleP y.1)[i]? = some (ruleP 33) := by rw [List.getElem?_map, hins]; rfl
    have hm := h.mks i h.lt
    rw [decide_eq_true rfl] at hm
    obtain ⟨hxr, hx1, hx2⟩ := hok
    have hk : OkL (33, 0) x := by
      refine ⟨hxr, by intro t ht; simp [ruleP] at ht, fun e => by simp at e, by decide, fun e => by simp at e, fun e => by simp at e, ?_⟩
      exact ⟨by decide, by decide, hx1, by simp [ruleP, runS]; omega⟩
    have hOk := okS_of K cd (33, 0) i (p.1, p.2.set i false) x hk (fun e => absurd e (by decide +kernel)) (by decide +kernel)
    have h0 : runErr (ruleP 33) (33, 0) x = 0 := by simp [runErr, ruleP, readE]
    have hst : stepP K (ruleP 33) (33, 0) i (p.1, p.2.set i false) = (0, (p.1, p.2.set i false)) := by
      unfold stepP
      simp only [getD_of h.cur zS]
      rw [if_neg (by rw [h0]; simp)]
      have a1 : after1 K (33, 0) (runS (ruleP 33) (33, 0) x) i (p.1, p.2.set i false) = (0, (p.1, p.2.set i false)) := by
        unfold after1
        rw [if_neg (by decide +kernel)]
      rw [a1, if_neg (by simp)]
      unfold after2
      rw [if_neg (by decide +kernel)]
    refine ⟨(p.1, p.2.set i false), ?_⟩
    unfold settleP
    rw [if_neg (by rw [contains_at h]; simp), getD_of hm false, if_pos rfl, getD_of hr zR, getD_of hins (0, 0), getD_of h.cur zS, if_pos hOk, hst, if_neg (by simp)]
    unfold settleP
    rw [if_pos]
    · rfl
    · rw [Bool.eq_false_iff]
      intro hc
      rw [List.contains_iff_mem] at hc
      obtain ⟨j, hj⟩ := List.mem_iff_getElem?.1 hc
      have hjl : j < cd.length := by
        have := (List.getElem?_eq_some_iff.1 hj).1
        simpa [h.l2] using this
      rw [setMark h.l2 h.lt h.mks j hjl] at hj
      cases hj
  | cons ins l ih =>
    intro i x p fuel hcd h hok hf
    obtain ⟨n, rfl⟩ : ∃ n, fuel = n + 1 := ⟨fuel - 1, by simp at hf; omega⟩
    have hins : cd[i]? = some ins := by
      have : (cd.drop i)[0]? = some ins := by rw [hcd]; rfl
      rwa [List.getElem?_drop, Nat.add_zero] at this
    have hr : (cd.map fun y => ruleP y.1)[i]? = some (ruleP ins.1) := by rw [List.getElem?_map, hins]; rfl
    have hm := h.mks i h.lt
    rw [decide_eq_true rfl] at hm
    obtain ⟨hk, hs1, hs2, hnx⟩ := hok
    have hdl : cd.length - i = (ins :: l ++ [(33, 0)]).length := by rw [← List.length_drop, hcd]
    have hi1 : i + 1 < cd.length := by simp at hdl; omega
    have hz : p.1.getD (i + 1) zS = zS := getD_of (h.rest (i + 1) (by omega) hi1) zS
    have hOk := okS_of K cd ins i (p.1, p.2.set i false) x hk (fun _ => ⟨hi1, hz⟩) hs2
    unfold settleP
    rw [if_neg (by rw [contains_at h]; simp), getD_of hm false, if_pos rfl, getD_of hr zR, getD_of hins (0, 0), getD_of h.cur zS, if_pos hOk]
    unfold lineE
    by_cases h0 : runErr (ruleP ins.1) ins x = 0
    · have hre : reachErr K zS (runS (ruleP ins.1) ins x) = if K < (runS (ruleP ins.1) ins x).st.length then 81 else 0 := by
        unfold reachErr
        by_cases e : K < (runS (ruleP ins.1) ins x).st.length
        · rw [if_pos e, if_pos e]
        · rw [if_neg e, if_neg e, if_pos (show zS.r = false from rfl)]
      have hrx : reachX zS (runS (ruleP ins.1) ins x) = runS (ruleP ins.1) ins x := by
        unfold reachX
        rw [if_pos (show zS.r = false from rfl)]
        rfl
      have hrc : reachC zS (runS (ruleP ins.1) ins x) ((p.2.set i false).getD (i + 1) false) = true := by unfold reachC; rw [if_pos (show zS.r = false from rfl)]
      have a1 : after1 K ins (runS (ruleP ins.1) ins x) i (p.1, p.2.set i false) = (if K < (runS (ruleP ins.1) ins x).st.length then 81 else 0, (p.1.set (i + 1) (runS (ruleP ins.1) ins x), (p.2.set i false).set (i + 1) true)) := by
        unfold after1 rchE rch
        rw [if_pos hs1]
        simp only [hz, hre, hrx, hrc]
      by_cases e : K < (runS (ruleP ins.1) ins x).st.length
      · have hst : stepP K (ruleP ins.1) ins i (p.1, p.2.set i false) = (81, (p.1.set (i + 1) (runS (ruleP ins.1) ins x), (p.2.set i false).set (i + 1) true)) := by
          unfold stepP
          simp only [getD_of h.cur zS]
          rw [if_neg (by rw [h0]; simp), a1, if_pos e, if_pos (by simp)]
        rw [hst, if_pos (by simp), if_neg (show ¬ runErr (ruleP ins.1) ins x ≠ 0 from fun c => c h0), if_pos e]
        exact ⟨_, rfl⟩
      · have hst : stepP K (ruleP ins.1) ins i (p.1, p.2.set i false) = (0, (p.1.set (i + 1) (runS (ruleP ins.1) ins x), (p.2.set i false).set (i + 1) true)) := by
          unfold stepP
          simp only [getD_of h.cur zS]
          rw [if_neg (by rw [h0]; simp), a1, if_neg e, if_neg (by simp)]
          unfold after2
          rw [if_neg (by rw [hs2]; simp)]
        rw [hst, if_neg (by simp), if_neg (show ¬ runErr (ruleP ins.1) ins x ≠ 0 from fun c => c h0), if_neg e]
        rw [Nat.mod_eq_of_lt hi1]
        refine ih (i + 1) _ _ n ?_ (h.step hi1 _) (hnx h0 e) (by simp at hf; omega)
        have : cd.drop (i + 1) = (cd.drop i).drop 1 := by rw [List.drop_drop]
        rw [this, hcd]
        rfl
    · have hst : stepP K (ruleP ins.1) ins i (p.1, p.2.set i false) = (runErr (ruleP ins.1) ins x, (p.1, p.2.set i false)) := by
        unfold stepP
        simp only [getD_of h.cur zS]
        rw [if_pos h0]
      rw [hst, if_pos h0, if_pos h0]
      exact ⟨_, rfl⟩

theorem at_beg (kn : ByteArray) (ts : List Ty) (n : Nat) (hn : 0 < n) : AtI n (beg kn ts n) 0 ⟨true, ⟨4, kn⟩ :: ts, []⟩ := by
  refine ⟨by simp [beg]; omega, by simp [beg]; omega, hn, rfl, fun j h1 h2 => ?_, fun j hj => ?_⟩
  · obtain ⟨k, rfl⟩ : ∃ k, j = k + 1 := ⟨j - 1, by omega⟩
    show (List.replicate (n - 1) (⟨false, [], []⟩ : Stt))[k]? = _
    rw [List.getElem?_replicate, if_pos (by omega)]
    rfl
  · cases j with
    | zero => rfl
    | succ k =>
      show (List.replicate (n - 1) false)[k]? = _
      rw [List.getElem?_replicate, if_pos (by omega)]
      simp
end Go.Proofs.YtpfkigoffllieaaGreatDoor
