/- What is asked of fields, of a method's face: the program's answers. -/
import Derived.Test.YthncdbobjeeeaaaGreatDoorGi
import Derived.Deep.RegionHeld3
namespace Go.Proofs.YthncdbobjeeeaaaGreatDoor
open Go.ChangeShapes Go.WideShapes Go.ChangeAt Go.RowKit

/-- Texts that a machine can hold. -/
def fitS (s : ByteArray) : Prop := s.size ≤ 1099511627776

theorem checkField_any (w : World) (x : Fd) (hn : fitS x.name) (ht : fitS x.ty.c) (v : Value) (l : List Fd) (h : SlG elFd w v l) :
    Calls Tryz.prog 53 #[.agg #[.string x.name, .int .i64 x.ty.k, .string x.ty.c, .bool x.vol], v] w fun e w' => e = .returned (.int .i64 (ckFd x l : Int)) ∧ Fr no w w' := by
  have HF : Hid (Fr no w (w.alloc (.cells #[.string x.name, .int .i64 x.ty.k, .string x.ty.c, .bool x.vol] 48))) := (Fr.refl no w).alloc _ _
  have hbx : BoxFd (w.alloc (.cells #[.string x.name, .int .i64 x.ty.k, .string x.ty.c, .bool x.vol] 48)) w.heap.size x := heap_alloc_new w _
  have hsl := h.kept HF.out
  have N := isName_any (w.alloc (.cells #[.string x.name, .int .i64 x.ty.k, .string x.ty.c, .bool x.vol] 48)) x.name hn
  have T := isType_any (w.alloc (.cells #[.string x.name, .int .i64 x.ty.k, .string x.ty.c, .bool x.vol] 48)) x.ty false ht
  unfold tyV at T
  have HC : Hid (∀ w1, Fr no (w.alloc (.cells #[.string x.name, .int .i64 x.ty.k, .string x.ty.c, .bool x.vol] 48)) w1 → Calls Tryz.prog 105 #[v, .func (.func 106) #[] #[.pointer (some ⟨w.heap.size, 0, none⟩)]] w1 fun e w' => e = .returned (.bool (l.any fun y => decide (y.name = x.name))) ∧ Fr no w1 w') :=
    fun w1 f1 => containsFd_any w1 v l (hsl.kept f1) w.heap.size x (hbx.kept f1)
  clear hbx hsl h
  by_cases hN : isName x.name = true
  · rw [hN] at N
    by_cases hT : isType x.ty false = true
    · rw [hT] at T
      by_cases hA : (l.any fun y => decide (y.name = x.name)) = true
      · have HE : Hid (ckFd x l = 53) := by show _ = _; unfold ckFd; rw [if_pos ⟨hN, hT⟩, if_pos hA]
        rw [hA] at HC
        go_enter Tryz.func53, Tryz.ntmps53
        go_wp2_with fail
        refine N.mono ?_
        rintro e w1 ⟨rfl, rfl⟩
        go_wp2_with fail
        refine T.mono ?_
        rintro e w2 ⟨rfl, f2⟩
        go_wp2_with fail
        refine (HC.out w2 f2).mono ?_
        rintro e w3 ⟨rfl, f3⟩
        go_wp2_with fail
        go_ret
        rw [HE.out]
        exact ⟨rfl, (HF.out.new f2 (fun _ _ f => f)).new f3 (fun _ _ f => f)⟩
      · have hA' : (l.any fun y => decide (y.name = x.name)) = false := by simpa using hA
        have HE : Hid (ckFd x l = 0) := by show _ = _; unfold ckFd; rw [if_pos ⟨hN, hT⟩, if_neg hA]
        rw [hA'] at HC
        go_enter Tryz.func53, Tryz.ntmps53
        go_wp2_with fail
        refine N.mono ?_
        rintro e w1 ⟨rfl, rfl⟩
        go_wp2_with fail
        refine T.mono ?_
        rintro e w2 ⟨rfl, f2⟩
        go_wp2_with fail
        refine (HC.out w2 f2).mono ?_
        rintro e w3 ⟨rfl, f3⟩
        go_wp2_with fail
        go_ret
        rw [HE.out]
        exact ⟨rfl, (HF.out.new f2 (fun _ _ f => f)).new f3 (fun _ _ f => f)⟩
    · have hT' : isType x.ty false = false := by simpa using hT
      rw [hT'] at T
      have HE : Hid (ckFd x l = 50) := by show _ = _; unfold ckFd; rw [if_neg (fun h => hT h.2)]
      go_enter Tryz.func53, Tryz.ntmps53
      go_wp2_with fail
      refine N.mono ?_
      rintro e w1 ⟨rfl, rfl⟩
      go_wp2_with fail
      refine T.mono ?_
      rintro e w2 ⟨rfl, f2⟩
      go_wp2_with fail
      go_ret
      rw [HE.out]
      exact ⟨rfl, HF.out.new f2 (fun _ _ f => f)⟩
  · have hN' : isName x.name = false := by simpa using hN
    rw [hN'] at N
    have HE : Hid (ckFd x l = 50) := by show _ = _; unfold ckFd; rw [if_neg (fun h => hN h.1)]
    go_enter Tryz.func53, Tryz.ntmps53
    go_wp2_with fail
    refine N.mono ?_
    rintro e w1 ⟨rfl, rfl⟩
    go_wp2_with fail
    go_ret
    rw [HE.out]
    exact ⟨rfl, HF.out⟩

theorem checkParam_any (w : World) (t : Ty) (ht : fitS t.c) (v : Value) (l : List Ty) : Calls Tryz.prog 108 #[.agg #[.int .i64 t.k, .string t.c], v] w fun e w' => e = .returned (.int .i64 (ckTy t l : Int)) ∧ Fr no w w' := by
  have T := fun w1 => isType_any w1 t false ht
  unfold tyV at T
  have HF : Hid (Fr no w (w.alloc (.cells #[.int .i64 t.k, .string t.c] 46))) := (Fr.refl no w).alloc _ _
  by_cases hT : isType t false = true
  · rw [hT] at T
    have HE : Hid (ckTy t l = 0) := by show _ = _; unfold ckTy; rw [if_pos hT]
    go_enter Tryz.func108, Tryz.ntmps108
    go_wp2_with fail
    refine (T _).mono ?_
    rintro e w2 ⟨rfl, f2⟩
    go_wp2_with fail
    go_ret
    rw [HE.out]
    exact ⟨rfl, HF.out.new f2 (fun _ _ f => f)⟩
  · have hT' : isType t false = false := by simpa using hT
    rw [hT'] at T
    have HE : Hid (ckTy t l = 50) := by show _ = _; unfold ckTy; rw [if_neg hT]
    go_enter Tryz.func108, Tryz.ntmps108
    go_wp2_with fail
    refine (T _).mono ?_
    rintro e w2 ⟨rfl, f2⟩
    go_wp2_with fail
    go_ret
    rw [HE.out]
    exact ⟨rfl, HF.out.new f2 (fun _ _ f => f)⟩

theorem params_any (w : World) (v : Value) (l : List Ty) (h : SlG elTy w v l) (hf : ∀ t ∈ l, fitS t.c) : Calls Tryz.prog 107 #[v, .int .i64 6, .func (.func 108) #[] #[]] w fun e w' => e = .returned (.int .i64 (eachE 6 ckTy l : Int)) ∧ Fr no w w' :=
  eachTy_any w v l h 6 (by omega) ckTy (fun w' v' k x _ hx _ => checkParam_any w' x (hf x (List.mem_of_getElem? hx)) v' _)

/-- The slices of a method hold its lists. -/
structure MtAt (w : World) (s : Ms) (m : Mt) : Prop where
  name : s.name = m.name
  ret : s.ret = m.ret
  lo : s.lo = m.lo
  st : s.st = m.st
  p : SlG elTy w (.slice s.p.a s.p.n s.p.c) m.params
  c : SlI w (.slice s.c.a s.c.n s.c.c) m.code
  h : SlG elHd w (.slice s.h.a s.h.n s.h.c) m.hands

theorem MtAt.kept {w w' : World} {s : Ms} {m : Mt} (h : MtAt w s m) (hf : Fr no w w') : MtAt w' s m := ⟨h.name, h.ret, h.lo, h.st, h.p.kept hf, h.c.kept hf, h.h.kept hf⟩

/-- A method whose texts and numbers a machine can hold. -/
structure FitM (m : Mt) : Prop where
  name : fitS m.name
  ret : fitS m.ret.c
  params : ∀ t ∈ m.params, fitS t.c

/-- Rows of methods, one by one. -/
def AtAll (w : World) (ls : List Ms) (l : List Mt) : Prop := ls.length = l.length ∧ ∀ (i : Nat) (s : Ms) (m : Mt), ls[i]? = some s → l[i]? = some m → MtAt w s m

theorem AtAll.kept {w w' : World} {ls : List Ms} {l : List Mt} (h : AtAll w ls l) (hf : Fr no w w') : AtAll w' ls l := ⟨h.1, fun i s m h1 h2 => (h.2 i s m h1 h2).kept hf⟩

theorem AtAll.take {w : World} {ls : List Ms} {l : List Mt} (h : AtAll w ls l) (k : Nat) : AtAll w (ls.take k) (l.take k) := by
  refine ⟨by rw [List.length_take, List.length_take, h.1], fun i s m h1 h2 => h.2 i s m ?_ ?_⟩
  · rw [List.getElem?_take] at h1
    split at h1
    · exact h1
    · simp at h1
  · rw [List.getElem?_take] at h2
    split at h2
    · exact h2
    · simp at h2

theorem AtAll.any {w : World} {ls : List Ms} {l : List Mt} (h : AtAll w ls l) (n : ByteArray) : (ls.any fun y => decide (y.name = n)) = l.any fun y => decide (y.name = n) := by
  obtain ⟨hl, h⟩ := h
  induction ls generalizing l with
  | nil =>
    cases l with
    | nil => rfl
    | cons a l => simp at hl
  | cons s ls ih =>
    cases l with
    | nil => simp at hl
    | cons m l =>
      have h0 := h 0 s m rfl rfl
      have := ih (l := l) (by simpa using hl) (fun i s m h1 h2 => h (i + 1) s m (by simpa using h1) (by simpa using h2))
      rw [List.any_cons, List.any_cons, this, h0.name]

theorem box8 {w : World} {q : Nat} {a0 a1 a2 a3 a4 a5 a6 a7 : Value} {t : TypeId} (h : w.heap[q]? = some (.cells #[a0, a1, a2, a3, a4, a5, a6, a7] t (0, 0))) :
    w.cell? ⟨q, 0, none⟩ = some a0 ∧ w.cell? ⟨q, 1, none⟩ = some a1 ∧ w.cell? ⟨q, 2, none⟩ = some a2 ∧ w.cell? ⟨q, 3, none⟩ = some a3 ∧ w.cell? ⟨q, 4, none⟩ = some a4 ∧ w.cell? ⟨q, 5, none⟩ = some a5 ∧ w.cell? ⟨q, 6, none⟩ = some a6 ∧ w.cell? ⟨q, 7, none⟩ = some a7 := by
  refine ⟨?_, ?_, ?_, ?_, ?_, ?_, ?_, ?_⟩ <;> simp [World.cell?, h]

set_option maxHeartbeats 1000000 in
theorem checkFace_any (w : World) (s : Ms) (m : Mt) (hm : MtAt w s m) (hf : FitM m) (v : Value) (ls : List Ms) (l : List Mt) (h : SlG elMs w v ls) (ha : AtAll w ls l) :
    Calls Tryz.prog 56 #[msV s, v] w fun e w' => e = .returned (.int .i64 (ckFace m l : Int)) ∧ Fr no w w' := by
  obtain ⟨sn, sp, sr, slo, sst, sc, sh⟩ := s
  obtain ⟨e1, e2, e3, e4, hp, hc, hh⟩ := hm
  simp only [] at e1 e2 e3 e4 hp hc hh
  subst e1 e2 e3 e4
  unfold msV
  simp only []
  have HF : Hid (Fr no w (w.alloc (.cells #[.string m.name, .slice sp.a sp.n sp.c, .int .i64 m.ret.k, .string m.ret.c, .int .i64 m.lo, .int .i64 m.st, .slice sc.a sc.n sc.c, .slice sh.a sh.n sh.c] 53))) := (Fr.refl no w).alloc _ _
  have hbx : BoxMs (w.alloc (.cells #[.string m.name, .slice sp.a sp.n sp.c, .int .i64 m.ret.k, .string m.ret.c, .int .i64 m.lo, .int .i64 m.st, .slice sc.a sc.n sc.c, .slice sh.a sh.n sh.c] 53)) w.heap.size ⟨m.name, sp, m.ret, m.lo, m.st, sc, sh⟩ := heap_alloc_new w _
  generalize hW : w.alloc (.cells #[.string m.name, .slice sp.a sp.n sp.c, .int .i64 m.ret.k, .string m.ret.c, .int .i64 m.lo, .int .i64 m.st, .slice sc.a sc.n sc.c, .slice sh.a sh.n sh.c] 53) = W at *
  have N := fun w1 => isName_any w1 m.name hf.name
  have T := fun w1 => isType_any w1 m.ret true hf.ret
  unfold tyV at T
  have HP : Hid (∀ w1, Fr no W w1 → Calls Tryz.prog 107 #[.slice sp.a sp.n sp.c, .int .i64 6, .func (.func 108) #[] #[]] w1 fun e w' => e = .returned (.int .i64 (eachE 6 ckTy m.params : Int)) ∧ Fr no w1 w') :=
    fun w1 f1 => params_any w1 _ _ ((hp.kept HF.out).kept f1) hf.params
  have HC : Hid (∀ w1, Fr no W w1 → Calls Tryz.prog 109 #[v, .func (.func 110) #[] #[.pointer (some ⟨w.heap.size, 0, none⟩)]] w1 fun e w' => e = .returned (.bool (l.any fun y => decide (y.name = m.name))) ∧ Fr no w1 w') := by
    intro w1 f1
    have := containsMs_any w1 v ls ((h.kept HF.out).kept f1) w.heap.size _ (hbx.kept f1)
    simp only [] at this
    rwa [ha.any] at this
  have HB : Hid (∀ w1, Fr no W w1 → _) := fun w1 f1 => box8 (hbx.kept f1)
  clear hbx h ha hp hc hh
  by_cases hN : isName m.name = true
  · rw [hN] at N
    by_cases hP : eachE 6 ckTy m.params = 0
    · rw [hP] at HP
      by_cases hT : isType m.ret true = true
      · rw [hT] at T
        by_cases hA : (l.any fun y => decide (y.name = m.name)) = true
        · have HE : Hid (ckFace m l = 53) := by show _ = _; unfold ckFace; rw [if_pos hN, if_neg (by omega), if_pos hT, if_pos hA]
          rw [hA] at HC
          obtain ⟨b0, b1, b2, b3, b4, b5, b6, b7⟩ := HB.out W (Fr.refl no _)
          go_enter Tryz.func56, Tryz.ntmps56
          go_wp2_with fail
          refine (N _).mono ?_
          rintro e w1 ⟨rfl, hw1⟩
          rw [hw1]
          clear hw1 w1
          go_wp2_with fail
          refine (HP.out W (Fr.refl no _)).mono ?_
          rintro e w2 ⟨rfl, f2⟩
          clear b0 b1 b2 b3 b4 b5 b6 b7
          obtain ⟨b0, b1, b2, b3, b4, b5, b6, b7⟩ := HB.out w2 f2
          go_wp2_with fail
          refine (T _).mono ?_
          rintro e w3 ⟨rfl, f3⟩
          have f3' := f2.new f3 (fun _ _ f => f)
          go_wp2_with fail
          refine (HC.out w3 f3').mono ?_
          rintro e w4 ⟨rfl, f4⟩
          have f4' := f3'.new f4 (fun _ _ f => f)
          go_wp2_with fail
          go_ret
          rw [HE.out]
          exact ⟨rfl, HF.out.new f4' (fun _ _ f => f)⟩
        · have hA' : (l.any fun y => decide (y.name = m.name)) = false := by simpa using hA
          have HE : Hid (ckFace m l = 0) := by show _ = _; unfold ckFace; rw [if_pos hN, if_neg (by omega), if_pos hT, if_neg hA]
          rw [hA'] at HC
          obtain ⟨b0, b1, b2, b3, b4, b5, b6, b7⟩ := HB.out W (Fr.refl no _)
          go_enter Tryz.func56, Tryz.ntmps56
          go_wp2_with fail
          refine (N _).mono ?_
          rintro e w1 ⟨rfl, hw1⟩
          rw [hw1]
          clear hw1 w1
          go_wp2_with fail
          refine (HP.out W (Fr.refl no _)).mono ?_
          rintro e w2 ⟨rfl, f2⟩
          clear b0 b1 b2 b3 b4 b5 b6 b7
          obtain ⟨b0, b1, b2, b3, b4, b5, b6, b7⟩ := HB.out w2 f2
          go_wp2_with fail
          refine (T _).mono ?_
          rintro e w3 ⟨rfl, f3⟩
          have f3' := f2.new f3 (fun _ _ f => f)
          go_wp2_with fail
          refine (HC.out w3 f3').mono ?_
          rintro e w4 ⟨rfl, f4⟩
          have f4' := f3'.new f4 (fun _ _ f => f)
          go_wp2_with fail
          go_ret
          rw [HE.out]
          exact ⟨rfl, HF.out.new f4' (fun _ _ f => f)⟩
      · have hT' : isType m.ret true = false := by simpa using hT
        rw [hT'] at T
        have HE : Hid (ckFace m l = 50) := by show _ = _; unfold ckFace; rw [if_pos hN, if_neg (by omega), if_neg hT]
        obtain ⟨b0, b1, b2, b3, b4, b5, b6, b7⟩ := HB.out W (Fr.refl no _)
        go_enter Tryz.func56, Tryz.ntmps56
        go_wp2_with fail
        refine (N _).mono ?_
        rintro e w1 ⟨rfl, hw1⟩
        rw [hw1]
        clear hw1 w1
        go_wp2_with fail
        refine (HP.out W (Fr.refl no _)).mono ?_
        rintro e w2 ⟨rfl, f2⟩
        clear b0 b1 b2 b3 b4 b5 b6 b7
        obtain ⟨b0, b1, b2, b3, b4, b5, b6, b7⟩ := HB.out w2 f2
        go_wp2_with fail
        refine (T _).mono ?_
        rintro e w3 ⟨rfl, f3⟩
        have f3' := f2.new f3 (fun _ _ f => f)
        go_wp2_with fail
        go_ret
        rw [HE.out]
        exact ⟨rfl, HF.out.new f3' (fun _ _ f => f)⟩
    · have HE : Hid (ckFace m l = eachE 6 ckTy m.params) := by show _ = _; unfold ckFace; rw [if_pos hN, if_pos hP]
      have hP' : ((eachE 6 ckTy m.params : Int) == 0) = false := by simp; omega
      generalize eachE 6 ckTy m.params = err at *
      obtain ⟨b0, b1, b2, b3, b4, b5, b6, b7⟩ := HB.out W (Fr.refl no _)
      go_enter Tryz.func56, Tryz.ntmps56
      go_wp2_with fail
      refine (N _).mono ?_
      rintro e w1 ⟨rfl, hw1⟩
      rw [hw1]
      clear hw1 w1
      go_wp2_with fail
      refine (HP.out W (Fr.refl no _)).mono ?_
      rintro e w2 ⟨rfl, f2⟩
      clear b0 b1 b2 b3 b4 b5 b6 b7
      obtain ⟨b0, b1, b2, b3, b4, b5, b6, b7⟩ := HB.out w2 f2
      go_wp2_with fail
      go_ret
      rw [HE.out]
      exact ⟨rfl, HF.out.new f2 (fun _ _ f => f)⟩
  · have hN' : isName m.name = false := by simpa using hN
    rw [hN'] at N
    have HE : Hid (ckFace m l = 50) := by show _ = _; unfold ckFace; rw [if_neg hN]
    obtain ⟨b0, b1, b2, b3, b4, b5, b6, b7⟩ := HB.out W (Fr.refl no _)
    go_enter Tryz.func56, Tryz.ntmps56
    go_wp2_with fail
    refine (N _).mono ?_
    rintro e w1 ⟨rfl, hw1⟩
    rw [hw1]
    clear hw1 w1
    go_wp2_with fail
    go_ret
    rw [HE.out]
    exact ⟨rfl, HF.out.new (Fr.refl no _) (fun _ _ f => f)⟩
end Go.Proofs.YthncdbobjeeeaaaGreatDoor

/- What is asked of instructions and handlers: the program's answers. -/
namespace Go.Proofs.YthncdbobjeeeaaaGreatDoor
open Go.ChangeShapes Go.WideShapes Go.ChangeAt Go.RowKit

theorem isConst_any (w : World) (v : Value) (pool : List Cs) (h : SlG elCs w v pool) (a k : Int) : Calls Tryz.prog 150 #[v, .int .i64 a, .int .i64 k] w fun e w' => e = .returned (.bool (isCst pool a k)) ∧ w' = w := by
  obtain ⟨ad, cp, rfl, hcap, hmx, hit⟩ := h
  unfold maxLen at hmx
  by_cases h0 : 0 ≤ a
  · obtain ⟨n, rfl⟩ : ∃ n : Nat, a = (n : Int) := ⟨a.toNat, by omega⟩
    by_cases hlt : n < pool.length
    · obtain ⟨x, hx⟩ : ∃ x, pool[n]? = some x := ⟨_, List.getElem?_eq_getElem hlt⟩
      obtain ⟨b, off, rfl, hc⟩ := hit n x hx
      have c0 : w.cell? ⟨b, off + n * 5, none⟩ = some (.int .i64 x.k) := hc 0 _ rfl
      have hlt' : (n : Int) < (pool.length : Int) := by omega
      have HE : Hid (isCst pool (n : Int) k = decide (x.k = k)) := by
        show _ = _
        unfold isCst
        rw [decide_eq_true h0]
        simp [hx]
      clear hc hit hx
      go_enter Tryz.func150, Tryz.ntmps150
      go_wp2_with fail
      go_ret
      rw [HE.out]
      exact ⟨by first | rfl | (simp [BEq.beq]; done), rfl⟩
    · have hlt' : ¬ (n : Int) < (pool.length : Int) := by omega
      have HE : Hid (isCst pool (n : Int) k = false) := by
        show _ = _
        unfold isCst
        rw [decide_eq_true h0]
        have : pool[n]? = none := List.getElem?_eq_none (by omega)
        simp [this]
      clear hit
      go_enter Tryz.func150, Tryz.ntmps150
      go_wp2_with fail
      go_ret
      rw [HE.out]
      exact ⟨by first | rfl | (simp; omega), rfl⟩
  · have HE : Hid (isCst pool a k = false) := by show _ = _; unfold isCst; rw [decide_eq_false h0]; rfl
    clear hit
    go_enter Tryz.func150, Tryz.ntmps150
    go_wp2_with fail
    go_ret
    rw [HE.out]
    exact ⟨by first | rfl | (simp; omega), rfl⟩

theorem askedKind_any (w : World) (op : Int) : Calls Tryz.prog 151 #[.int .i64 op] w fun e w' => e = .returned (.int .i64 (asked op)) ∧ w' = w := by
  by_cases e1 : op = 1
  · subst e1
    go_enter Tryz.func151, Tryz.ntmps151
    go_wp2_with fail
    go_ret
    exact ⟨rfl, rfl⟩
  by_cases e2 : op = 2
  · subst e2
    go_enter Tryz.func151, Tryz.ntmps151
    go_wp2_with fail
    go_ret
    exact ⟨rfl, rfl⟩
  by_cases e25 : op = 25
  · subst e25
    go_enter Tryz.func151, Tryz.ntmps151
    go_wp2_with fail
    go_ret
    exact ⟨rfl, rfl⟩
  by_cases e36 : op = 36
  · subst e36
    go_enter Tryz.func151, Tryz.ntmps151
    go_wp2_with fail
    go_ret
    exact ⟨rfl, rfl⟩
  by_cases e37 : op = 37
  · subst e37
    go_enter Tryz.func151, Tryz.ntmps151
    go_wp2_with fail
    go_ret
    exact ⟨rfl, rfl⟩
  by_cases e26 : op = 26
  · subst e26
    go_enter Tryz.func151, Tryz.ntmps151
    go_wp2_with fail
    go_ret
    exact ⟨rfl, rfl⟩
  by_cases e27 : op = 27
  · subst e27
    go_enter Tryz.func151, Tryz.ntmps151
    go_wp2_with fail
    go_ret
    exact ⟨rfl, rfl⟩
  have q1 : (op == 1) = false := by simpa using e1
  have q2 : (op == 2) = false := by simpa using e2
  have q25 : (op == 25) = false := by simpa using e25
  have q36 : (op == 36) = false := by simpa using e36
  have q37 : (op == 37) = false := by simpa using e37
  have q26 : (op == 26) = false := by simpa using e26
  have q27 : (op == 27) = false := by simpa using e27
  have HE : Hid (asked op = 5) := by show _ = _; unfold asked; rw [if_neg e1, if_neg e2, if_neg (by omega), if_neg (by omega)]
  clear e1 e2 e25 e36 e37 e26 e27
  go_enter Tryz.func151, Tryz.ntmps151
  go_wp2_with fail
  go_ret
  rw [HE.out]
  exact ⟨rfl, rfl⟩

theorem box2 {w : World} {q : Nat} {a0 a1 : Value} {t : TypeId} (h : w.heap[q]? = some (.cells #[a0, a1] t (0, 0))) : w.cell? ⟨q, 0, none⟩ = some a0 ∧ w.cell? ⟨q, 1, none⟩ = some a1 := by
  refine ⟨?_, ?_⟩ <;> simp [World.cell?, h]
theorem box5 {w : World} {q : Nat} {a0 a1 a2 a3 a4 : Value} {t : TypeId} (h : w.heap[q]? = some (.cells #[a0, a1, a2, a3, a4] t (0, 0))) :
    w.cell? ⟨q, 0, none⟩ = some a0 ∧ w.cell? ⟨q, 1, none⟩ = some a1 ∧ w.cell? ⟨q, 2, none⟩ = some a2 ∧ w.cell? ⟨q, 3, none⟩ = some a3 ∧ w.cell? ⟨q, 4, none⟩ = some a4 := by
  refine ⟨?_, ?_, ?_, ?_, ?_⟩ <;> simp [World.cell?, h]
end Go.Proofs.YthncdbobjeeeaaaGreatDoor

/- What is asked of an instruction and of a handler: the program's answers. -/
namespace Go.Proofs.YthncdbobjeeeaaaGreatDoor
open Go.ChangeShapes Go.WideShapes Go.ChangeAt Go.RowKit

theorem MtAt.open {w : World} {s : Ms} {m : Mt} (h : MtAt w s m) : ∃ pa pc ca cc ha hc, s = ⟨m.name, ⟨pa, m.params.length, pc⟩, m.ret, m.lo, m.st, ⟨ca, m.code.length, cc⟩, ⟨ha, m.hands.length, hc⟩⟩ ∧
    m.params.length ≤ pc ∧ pc ≤ maxLen ∧ m.code.length ≤ cc ∧ cc ≤ maxLen := by
  obtain ⟨sn, ⟨sp1, sp2, sp3⟩, sr, slo, sst, ⟨sc1, sc2, sc3⟩, ⟨sh1, sh2, sh3⟩⟩ := s
  obtain ⟨e1, e2, e3, e4, ⟨a1, c1, q1, p1, p2, _⟩, ⟨a2, c2, q2, p3, p4, _⟩, ⟨a3, c3, q3, p5, p6, _⟩⟩ := h
  simp only [Value.slice.injEq] at e1 e2 e3 e4 q1 q2 q3
  obtain ⟨rfl, rfl, rfl⟩ := q1
  obtain ⟨rfl, rfl, rfl⟩ := q2
  obtain ⟨rfl, rfl, rfl⟩ := q3
  subst e1 e2 e3 e4
  exact ⟨_, _, _, _, _, _, rfl, p1, p2, p3, p4⟩

set_option maxRecDepth 100000 in
set_option maxHeartbeats 2000000 in
theorem checkIns_any (w : World) (T : Tb w) (x : Int × Int) (s : Ms) (m : Mt) (hm : MtAt w s m) (v : Value) (pool : List Cs) (hp : SlG elCs w v pool) :
    Calls Tryz.prog 113 #[ins x.1 x.2, msV s, v] w fun e w' => e = .returned (.int .i64 (ckIns pool m.lo m.code.length x : Int)) ∧ Fr no w w' := by
  obtain ⟨op, a⟩ := x
  have hm0 := hm
  obtain ⟨pa, pc, ca, cc, ha, hc, rfl, hb⟩ := hm.open
  clear hm0
  have hb2 := hb.2.2.2
  have hb1' := hb.2.2.1
  unfold maxLen at hb2
  clear hb
  unfold msV ins
  simp only []
  have HF : Hid (Fr no w ((w.alloc (.cells #[.int .i64 op, .int .i64 a] 57)).alloc (.cells #[.string m.name, .slice pa m.params.length pc, .int .i64 m.ret.k, .string m.ret.c, .int .i64 m.lo, .int .i64 m.st, .slice ca m.code.length cc, .slice ha m.hands.length hc] 53))) := ((Fr.refl no w).alloc _ _).alloc _ _
  have hs1 : (w.alloc (.cells #[.int .i64 op, .int .i64 a] 57)).heap.size = w.heap.size + 1 := size_alloc _ _
  have hb1 : ((w.alloc (.cells #[.int .i64 op, .int .i64 a] 57)).alloc (.cells #[.string m.name, .slice pa m.params.length pc, .int .i64 m.ret.k, .string m.ret.c, .int .i64 m.lo, .int .i64 m.st, .slice ca m.code.length cc, .slice ha m.hands.length hc] 53)).heap[w.heap.size + 1]? = some (.cells #[.string m.name, .slice pa m.params.length pc, .int .i64 m.ret.k, .string m.ret.c, .int .i64 m.lo, .int .i64 m.st, .slice ca m.code.length cc, .slice ha m.hands.length hc] 53 (0, 0)) := by
    rw [← hs1]; exact heap_alloc_new _ _
  have hb0 : ((w.alloc (.cells #[.int .i64 op, .int .i64 a] 57)).alloc (.cells #[.string m.name, .slice pa m.params.length pc, .int .i64 m.ret.k, .string m.ret.c, .int .i64 m.lo, .int .i64 m.st, .slice ca m.code.length cc, .slice ha m.hands.length hc] 53)).heap[w.heap.size]? = some (.cells #[.int .i64 op, .int .i64 a] 57 (0, 0)) :=
    ((Fr.refl no _).alloc _ _).heap (heap_alloc_new w _) (fun f => f)
  generalize hW : ((w.alloc (.cells #[.int .i64 op, .int .i64 a] 57)).alloc (.cells #[.string m.name, .slice pa m.params.length pc, .int .i64 m.ret.k, .string m.ret.c, .int .i64 m.lo, .int .i64 m.st, .slice ca m.code.length cc, .slice ha m.hands.length hc] 53)) = W at *
  have HB : Hid (∀ w1, Fr no W w1 → _) := fun w1 f1 => box2 (f1.heap hb0 (fun f => f))
  have HC : Hid (∀ w1, Fr no W w1 → _) := fun w1 f1 => box8 (f1.heap hb1 (fun f => f))
  have TW := T.kept HF.out
  have I := is_any W TW op a
  have O := fun w1 (f1 : Fr no W w1) => operand_any w1 (TW.kept f1) op
  have A := fun w1 => askedKind_any w1 op
  have C := fun w1 (f1 : Fr no W w1) k => isConst_any w1 v pool ((hp.kept HF.out).kept f1) a k
  unfold ins at I
  clear hb0 hb1 hm TW
  have HK : Hid (ckIns pool m.lo m.code.length (op, a) = if isb op a = true then (if od op = 1 then (if m.lo ≤ a then 52 else 0) else if od op = 2 then (if isCst pool a (asked op) = true then 0 else 51) else if od op = 3 then (if (m.code.length : Int) ≤ a then 52 else 0) else 0) else 40) := rfl
  obtain ⟨b0, b1⟩ := HB.out W (Fr.refl no _)
  by_cases hi : isb op a = true
  · rw [hi] at I
    rw [if_pos hi] at HK
    rcases od_cases op with e | e | ⟨ep, ep3⟩
    · exact absurd hi (by rw [isb_none op a e]; simp)
    · rw [e] at O
      have HE : Hid (ckIns pool m.lo m.code.length (op, a) = 0) := by show _ = _; rw [HK.out, e]; rfl
      clear e
      go_enter Tryz.func113, Tryz.ntmps113
      go_wp2_with fail
      refine I.mono ?_
      rintro e w1 ⟨rfl, f1⟩
      clear b0 b1
      obtain ⟨b0, b1⟩ := HB.out w1 f1
      obtain ⟨d0, d1, d2, d3, d4, d5, d6, d7⟩ := HC.out w1 f1
      go_wp2_with fail
      refine (O w1 f1).mono ?_
      rintro e w1 ⟨rfl, rfl⟩
      go_wp2_with fail
      go_ret
      rw [HE.out]
      exact ⟨rfl, HF.out.new f1 (fun _ _ f => f)⟩
    · rcases (show od op = 1 ∨ od op = 2 ∨ od op = 3 by omega) with e | e | e
      · rw [e] at O
        have HK' : Hid (ckIns pool m.lo m.code.length (op, a) = if m.lo ≤ a then 52 else 0) := by show _ = _; rw [HK.out, if_pos e]
        clear HK e ep ep3
        by_cases hl : m.lo ≤ a
        · have HE : Hid (ckIns pool m.lo m.code.length (op, a) = 52) := by show _ = _; rw [HK'.out, if_pos hl]
          go_enter Tryz.func113, Tryz.ntmps113
          go_wp2_with fail
          refine I.mono ?_
          rintro e w1 ⟨rfl, f1⟩
          clear b0 b1
          obtain ⟨b0, b1⟩ := HB.out w1 f1
          obtain ⟨d0, d1, d2, d3, d4, d5, d6, d7⟩ := HC.out w1 f1
          go_wp2_with fail
          refine (O w1 f1).mono ?_
          rintro e w1 ⟨rfl, rfl⟩
          go_wp2_with fail
          go_ret
          rw [HE.out]
          exact ⟨rfl, HF.out.new f1 (fun _ _ f => f)⟩
        · have HE : Hid (ckIns pool m.lo m.code.length (op, a) = 0) := by show _ = _; rw [HK'.out, if_neg hl]
          go_enter Tryz.func113, Tryz.ntmps113
          go_wp2_with fail
          refine I.mono ?_
          rintro e w1 ⟨rfl, f1⟩
          clear b0 b1
          obtain ⟨b0, b1⟩ := HB.out w1 f1
          obtain ⟨d0, d1, d2, d3, d4, d5, d6, d7⟩ := HC.out w1 f1
          go_wp2_with fail
          refine (O w1 f1).mono ?_
          rintro e w1 ⟨rfl, rfl⟩
          go_wp2_with fail
          go_ret
          rw [HE.out]
          exact ⟨rfl, HF.out.new f1 (fun _ _ f => f)⟩
      · rw [e] at O
        have HK' : Hid (ckIns pool m.lo m.code.length (op, a) = if isCst pool a (asked op) = true then 0 else 51) := by show _ = _; rw [HK.out, if_neg (by omega), if_pos e]
        clear HK e ep ep3
        have KS : ∀ w2, Fr no W w2 → Fr no W w2 ∧ w2.cell? ⟨w.heap.size, 0, none⟩ = some (.int .i64 op) ∧ w2.cell? ⟨w.heap.size, 1, none⟩ = some (.int .i64 a) := fun w2 f2 => ⟨f2, (HB.out w2 f2).1, (HB.out w2 f2).2⟩
        have C' := fun w1 (f1 : Fr no W w1) => C w1 f1 (asked op)
        generalize asked op = ak at *
        by_cases hl : isCst pool a ak = true
        · have HE : Hid (ckIns pool m.lo m.code.length (op, a) = 0) := by show _ = _; rw [HK'.out, if_pos hl]
          rw [hl] at C'
          go_enter Tryz.func113, Tryz.ntmps113
          go_wp2_with fail
          refine I.mono ?_
          rintro e w1 ⟨rfl, f1⟩
          clear b0 b1
          obtain ⟨b0, b1⟩ := HB.out w1 f1
          obtain ⟨d0, d1, d2, d3, d4, d5, d6, d7⟩ := HC.out w1 f1
          go_wp2_with fail
          refine (O w1 f1).mono ?_
          rintro e w1 ⟨rfl, rfl⟩
          go_wp2_with fail
          go_region_held3 (fun w2 => Fr no W w2 ∧ w2.cell? ⟨w.heap.size, 0, none⟩ = some (.int .i64 op) ∧ w2.cell? ⟨w.heap.size, 1, none⟩ = some (.int .i64 a)) (first | exact KS _ f1.drew | assumption) (first | (go_at_call 151; refine (A _).mono ?_; rintro e w3 ⟨rfl, rfl⟩) | (go_at_call 150; refine (C' _ f1.drew).mono ?_; rintro e w3 ⟨rfl, rfl⟩))
          go_wp2_with fail
          go_ret
          rw [HE.out]
          exact ⟨rfl, HF.out.new f1.drew (fun _ _ f => f)⟩
        · have HE : Hid (ckIns pool m.lo m.code.length (op, a) = 51) := by show _ = _; rw [HK'.out, if_neg hl]
          have hl' : isCst pool a ak = false := by simpa using hl
          rw [hl'] at C'
          go_enter Tryz.func113, Tryz.ntmps113
          go_wp2_with fail
          refine I.mono ?_
          rintro e w1 ⟨rfl, f1⟩
          clear b0 b1
          obtain ⟨b0, b1⟩ := HB.out w1 f1
          obtain ⟨d0, d1, d2, d3, d4, d5, d6, d7⟩ := HC.out w1 f1
          go_wp2_with fail
          refine (O w1 f1).mono ?_
          rintro e w1 ⟨rfl, rfl⟩
          go_wp2_with fail
          go_region_held3 (fun w2 => Fr no W w2 ∧ w2.cell? ⟨w.heap.size, 0, none⟩ = some (.int .i64 op) ∧ w2.cell? ⟨w.heap.size, 1, none⟩ = some (.int .i64 a)) (first | exact KS _ f1.drew | assumption) (first | (go_at_call 151; refine (A _).mono ?_; rintro e w3 ⟨rfl, rfl⟩) | (go_at_call 150; refine (C' _ f1.drew).mono ?_; rintro e w3 ⟨rfl, rfl⟩))
          go_wp2_with fail
          go_ret
          rw [HE.out]
          exact ⟨rfl, HF.out.new f1.drew (fun _ _ f => f)⟩
      · rw [e] at O
        have HK' : Hid (ckIns pool m.lo m.code.length (op, a) = if (m.code.length : Int) ≤ a then 52 else 0) := by show _ = _; rw [HK.out, if_neg (by omega), if_neg (by omega), if_pos e]
        clear HK e ep ep3
        by_cases hl : (m.code.length : Int) ≤ a
        · have HE : Hid (ckIns pool m.lo m.code.length (op, a) = 52) := by show _ = _; rw [HK'.out, if_pos hl]
          go_enter Tryz.func113, Tryz.ntmps113
          go_wp2_with fail
          refine I.mono ?_
          rintro e w1 ⟨rfl, f1⟩
          clear b0 b1
          obtain ⟨b0, b1⟩ := HB.out w1 f1
          obtain ⟨d0, d1, d2, d3, d4, d5, d6, d7⟩ := HC.out w1 f1
          go_wp2_with fail
          refine (O w1 f1).mono ?_
          rintro e w1 ⟨rfl, rfl⟩
          go_wp2_with fail
          go_ret
          rw [HE.out]
          exact ⟨rfl, HF.out.new f1 (fun _ _ f => f)⟩
        · have HE : Hid (ckIns pool m.lo m.code.length (op, a) = 0) := by show _ = _; rw [HK'.out, if_neg hl]
          go_enter Tryz.func113, Tryz.ntmps113
          go_wp2_with fail
          refine I.mono ?_
          rintro e w1 ⟨rfl, f1⟩
          clear b0 b1
          obtain ⟨b0, b1⟩ := HB.out w1 f1
          obtain ⟨d0, d1, d2, d3, d4, d5, d6, d7⟩ := HC.out w1 f1
          go_wp2_with fail
          refine (O w1 f1).mono ?_
          rintro e w1 ⟨rfl, rfl⟩
          go_wp2_with fail
          go_ret
          rw [HE.out]
          exact ⟨rfl, HF.out.new f1 (fun _ _ f => f)⟩
  · have hi' : isb op a = false := by simpa using hi
    rw [hi'] at I
    have HE : Hid (ckIns pool m.lo m.code.length (op, a) = 40) := by show _ = _; rw [HK.out, if_neg hi]
    go_enter Tryz.func113, Tryz.ntmps113
    go_wp2_with fail
    refine I.mono ?_
    rintro e w1 ⟨rfl, f1⟩
    go_wp2_with fail
    go_ret
    rw [HE.out]
    exact ⟨rfl, HF.out.new f1 (fun _ _ f => f)⟩
end Go.Proofs.YthncdbobjeeeaaaGreatDoor

