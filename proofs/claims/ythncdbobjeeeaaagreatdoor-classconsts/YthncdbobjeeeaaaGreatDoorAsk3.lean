/- What is asked of fields, of a method's face: the program's answers. -/
import Derived.Test.YthncdbobjeeeaaaGreatDoorNamed
import Derived.Test.YthncdbobjeeeaaaGreatDoorEach
import Derived.Test.YthncdbobjeeeaaaGreatDoorEach2
namespace Go.Proofs.YthncdbobjeeeaaaGreatDoor
open Go.ChangeShapes Go.WideShapes Go.ChangeAt Go.RowKit

/-- Texts that a machine can hold. -/
def fitS (s : ByteArray) : Prop := s.size ≤ 1099511627776

theorem checkField_any (w : World) (x : Fd) (hn : fitS x.name) (ht : fitS x.ty.c) (v : Value) (l : List Fd) (h : SlG elFd w v l) :
    Calls Tryz.prog 53 #[.agg #[.string x.name, .int .i64 x.ty.k, .string x.ty.c, .bool x.vol], v] w fun e w' => e = .returned (.int .i64 (ckFd x l : Int)) ∧ Fr no w w' := by
  have HF : Hid (Fr no w (w.alloc (.cells #[.string x.name, .int .i64 x.ty.k, .string x.ty.c, .bool x.vol] 48))) := (Fr.refl no w).alloc _ _
  have hbx : BoxFd (w.alloc (.cells #[.string x.name, .int .i64 x.ty.k, .string x.ty.c, .bool x.vol] 48)) w.heap.size x := heap_alloc_new w _
  have hsl := h.kept HF.out
  have N := isName_any (w.alloc (.cells #[.string x.name, .int .i64 x.ty.k, .string x.ty.c, .bool x.vol] 48)) x.name hn
  have T := isType_any (w.alloc (.cells #[.string x.name, .int .i64 x.ty.k, .string x.ty.c, .bool x.vol] 48)) x.ty false ht
  unfold tyV at T
  have HC : Hid (∀ w1, Fr no (w.alloc (.cells #[.string x.name, .int .i64 x.ty.k, .string x.ty.c, .bool x.vol] 48)) w1 → Calls Tryz.prog 105 #[v, .func (.func 106) #[] #[.pointer (some ⟨w.heap.size, 0, none⟩)]] w1 fun e w' => e = .returned (.bool (l.any fun y => decide (y.name = x.name))) ∧ Fr no w1 w') :=
    fun w1 f1 => containsFd_any w1 v l (hsl.kept f1) w.heap.size x (hbx.kept f1)
  clear hbx hsl h
  by_cases hN : isName x.name = true
  · rw [hN] at N
    by_cases hT : isType x.ty false = true
    · rw [hT] at T
      by_cases hA : (l.any fun y => decide (y.name = x.name)) = true
      · have HE : Hid (ckFd x l = 53) := by show _ = _; unfold ckFd; rw [if_pos ⟨hN, hT⟩, if_pos hA]
        rw [hA] at HC
        go_enter Tryz.func53, Tryz.ntmps53
        go_wp2_with fail
        refine N.mono ?_
        rintro e w1 ⟨rfl, rfl⟩
        go_wp2_with fail
        refine T.mono ?_
        rintro e w2 ⟨rfl, f2⟩
        go_wp2_with fail
        refine (HC.out w2 f2).mono ?_
        rintro e w3 ⟨rfl, f3⟩
        go_wp2_with fail
        go_ret
        rw [HE.out]
        exact ⟨rfl, (HF.out.new f2 (fun _ _ f => f)).new f3 (fun _ _ f => f)⟩
      · have hA' : (l.any fun y => decide (y.name = x.name)) = false := by simpa using hA
        have HE : Hid (ckFd x l = 0) := by show _ = _; unfold ckFd; rw [if_pos ⟨hN, hT⟩, if_neg hA]
        rw [hA'] at HC
        go_enter Tryz.func53, Tryz.ntmps53
        go_wp2_with fail
        refine N.mono ?_
        rintro e w1 ⟨rfl, rfl⟩
        go_wp2_with fail
        refine T.mono ?_
        rintro e w2 ⟨rfl, f2⟩
        go_wp2_with fail
        refine (HC.out w2 f2).mono ?_
        rintro e w3 ⟨rfl, f3⟩
        go_wp2_with fail
        go_ret
        rw [HE.out]
        exact ⟨rfl, (HF.out.new f2 (fun _ _ f => f)).new f3 (fun _ _ f => f)⟩
    · have hT' : isType x.ty false = false := by simpa using hT
      rw [hT'] at T
      have HE : Hid (ckFd x l = 50) := by show _ = _; unfold ckFd; rw [if_neg (fun h => hT h.2)]
      go_enter Tryz.func53, Tryz.ntmps53
      go_wp2_with fail
      refine N.mono ?_
      rintro e w1 ⟨rfl, rfl⟩
      go_wp2_with fail
      refine T.mono ?_
      rintro e w2 ⟨rfl, f2⟩
      go_wp2_with fail
      go_ret
      rw [HE.out]
      exact ⟨rfl, HF.out.new f2 (fun _ _ f => f)⟩
  · have hN' : isName x.name = false := by simpa using hN
    rw [hN'] at N
    have HE : Hid (ckFd x l = 50) := by show _ = _; unfold ckFd; rw [if_neg (fun h => hN h.1)]
    go_enter Tryz.func53, Tryz.ntmps53
    go_wp2_with fail
    refine N.mono ?_
    rintro e w1 ⟨rfl, rfl⟩
    go_wp2_with fail
    go_ret
    rw [HE.out]
    exact ⟨rfl, HF.out⟩

theorem checkParam_any (w : World) (t : Ty) (ht : fitS t.c) (v : Value) (l : List Ty) : Calls Tryz.prog 108 #[.agg #[.int .i64 t.k, .string t.c], v] w fun e w' => e = .returned (.int .i64 (ckTy t l : Int)) ∧ Fr no w w' := by
  have T := fun w1 => isType_any w1 t false ht
  unfold tyV at T
  have HF : Hid (Fr no w (w.alloc (.cells #[.int .i64 t.k, .string t.c] 46))) := (Fr.refl no w).alloc _ _
  by_cases hT : isType t false = true
  · rw [hT] at T
    have HE : Hid (ckTy t l = 0) := by show _ = _; unfold ckTy; rw [if_pos hT]
    go_enter Tryz.func108, Tryz.ntmps108
    go_wp2_with fail
    refine (T _).mono ?_
    rintro e w2 ⟨rfl, f2⟩
    go_wp2_with fail
    go_ret
    rw [HE.out]
    exact ⟨rfl, HF.out.new f2 (fun _ _ f => f)⟩
  · have hT' : isType t false = false := by simpa using hT
    rw [hT'] at T
    have HE : Hid (ckTy t l = 50) := by show _ = _; unfold ckTy; rw [if_neg hT]
    go_enter Tryz.func108, Tryz.ntmps108
    go_wp2_with fail
    refine (T _).mono ?_
    rintro e w2 ⟨rfl, f2⟩
    go_wp2_with fail
    go_ret
    rw [HE.out]
    exact ⟨rfl, HF.out.new f2 (fun _ _ f => f)⟩

theorem params_any (w : World) (v : Value) (l : List Ty) (h : SlG elTy w v l) (hf : ∀ t ∈ l, fitS t.c) : Calls Tryz.prog 107 #[v, .int .i64 6, .func (.func 108) #[] #[]] w fun e w' => e = .returned (.int .i64 (eachE 6 ckTy l : Int)) ∧ Fr no w w' :=
  eachTy_any w v l h 6 (by omega) ckTy (fun w' v' k x _ hx _ => checkParam_any w' x (hf x (List.mem_of_getElem? hx)) v' _)

/-- The slices of a method hold its lists. -/
structure MtAt (w : World) (s : Ms) (m : Mt) : Prop where
  name : s.name = m.name
  ret : s.ret = m.ret
  lo : s.lo = m.lo
  st : s.st = m.st
  p : SlG elTy w (.slice s.p.a s.p.n s.p.c) m.params
  c : SlI w (.slice s.c.a s.c.n s.c.c) m.code
  h : SlG elHd w (.slice s.h.a s.h.n s.h.c) m.hands

theorem MtAt.kept {w w' : World} {s : Ms} {m : Mt} (h : MtAt w s m) (hf : Fr no w w') : MtAt w' s m := ⟨h.name, h.ret, h.lo, h.st, h.p.kept hf, h.c.kept hf, h.h.kept hf⟩

/-- A method whose texts and numbers a machine can hold. -/
structure FitM (m : Mt) : Prop where
  name : fitS m.name
  ret : fitS m.ret.c
  params : ∀ t ∈ m.params, fitS t.c

/-- Rows of methods, one by one. -/
def AtAll (w : World) (ls : List Ms) (l : List Mt) : Prop := ls.length = l.length ∧ ∀ (i : Nat) (s : Ms) (m : Mt), ls[i]? = some s → l[i]? = some m → MtAt w s m

theorem AtAll.kept {w w' : World} {ls : List Ms} {l : List Mt} (h : AtAll w ls l) (hf : Fr no w w') : AtAll w' ls l := ⟨h.1, fun i s m h1 h2 => (h.2 i s m h1 h2).kept hf⟩

theorem AtAll.take {w : World} {ls : List Ms} {l : List Mt} (h : AtAll w ls l) (k : Nat) : AtAll w (ls.take k) (l.take k) := by
  refine ⟨by rw [List.length_take, List.length_take, h.1], fun i s m h1 h2 => h.2 i s m ?_ ?_⟩
  · rw [List.getElem?_take] at h1
    split at h1
    · exact h1
    · simp at h1
  · rw [List.getElem?_take] at h2
    split at h2
    · exact h2
    · simp at h2

theorem AtAll.any {w : World} {ls : List Ms} {l : List Mt} (h : AtAll w ls l) (n : ByteArray) : (ls.any fun y => decide (y.name = n)) = l.any fun y => decide (y.name = n) := by
  obtain ⟨hl, h⟩ := h
  induction ls generalizing l with
  | nil =>
    cases l with
    | nil => rfl
    | cons a l => simp at hl
  | cons s ls ih =>
    cases l with
    | nil => simp at hl
    | cons m l =>
      have h0 := h 0 s m rfl rfl
      have := ih (l := l) (by simpa using hl) (fun i s m h1 h2 => h (i + 1) s m (by simpa using h1) (by simpa using h2))
      rw [List.any_cons, List.any_cons, this, h0.name]

theorem box8 {w : World} {q : Nat} {a0 a1 a2 a3 a4 a5 a6 a7 : Value} {t : TypeId} (h : w.heap[q]? = some (.cells #[a0, a1, a2, a3, a4, a5, a6, a7] t (0, 0))) :
    w.cell? ⟨q, 0, none⟩ = some a0 ∧ w.cell? ⟨q, 1, none⟩ = some a1 ∧ w.cell? ⟨q, 2, none⟩ = some a2 ∧ w.cell? ⟨q, 3, none⟩ = some a3 ∧ w.cell? ⟨q, 4, none⟩ = some a4 ∧ w.cell? ⟨q, 5, none⟩ = some a5 ∧ w.cell? ⟨q, 6, none⟩ = some a6 ∧ w.cell? ⟨q, 7, none⟩ = some a7 := by
  refine ⟨?_, ?_, ?_, ?_, ?_, ?_, ?_, ?_⟩ <;> simp [World.cell?, h]

set_option maxHeartbeats 1000000 in
theorem checkFace_any (w : World) (s : Ms) (m : Mt) (hm : MtAt w s m) (hf : FitM m) (v : Value) (ls : List Ms) (l : List Mt) (h : SlG elMs w v ls) (ha : AtAll w ls l) :
    Calls Tryz.prog 56 #[msV s, v] w fun e w' => e = .returned (.int .i64 (ckFace m l : Int)) ∧ Fr no w w' := by
  obtain ⟨sn, sp, sr, slo, sst, sc, sh⟩ := s
  obtain ⟨e1, e2, e3, e4, hp, hc, hh⟩ := hm
  simp only [] at e1 e2 e3 e4 hp hc hh
  subst e1 e2 e3 e4
  unfold msV
  simp only []
  have HF : Hid (Fr no w (w.alloc (.cells #[.string m.name, .slice sp.a sp.n sp.c, .int .i64 m.ret.k, .string m.ret.c, .int .i64 m.lo, .int .i64 m.st, .slice sc.a sc.n sc.c, .slice sh.a sh.n sh.c] 53))) := (Fr.refl no w).alloc _ _
  have hbx : BoxMs (w.alloc (.cells #[.string m.name, .slice sp.a sp.n sp.c, .int .i64 m.ret.k, .string m.ret.c, .int .i64 m.lo, .int .i64 m.st, .slice sc.a sc.n sc.c, .slice sh.a sh.n sh.c] 53)) w.heap.size ⟨m.name, sp, m.ret, m.lo, m.st, sc, sh⟩ := heap_alloc_new w _
  generalize hW : w.alloc (.cells #[.string m.name, .slice sp.a sp.n sp.c, .int .i64 m.ret.k, .string m.ret.c, .int .i64 m.lo, .int .i64 m.st, .slice sc.a sc.n sc.c, .slice sh.a sh.n sh.c] 53) = W at *
  have N := fun w1 => isName_any w1 m.name hf.name
  have T := fun w1 => isType_any w1 m.ret true hf.ret
  unfold tyV at T
  have HP : Hid (∀ w1, Fr no W w1 → Calls Tryz.prog 107 #[.slice sp.a sp.n sp.c, .int .i64 6, .func (.func 108) #[] #[]] w1 fun e w' => e = .returned (.int .i64 (eachE 6 ckTy m.params : Int)) ∧ Fr no w1 w') :=
    fun w1 f1 => params_any w1 _ _ ((hp.kept HF.out).kept f1) hf.params
  have HC : Hid (∀ w1, Fr no W w1 → Calls Tryz.prog 109 #[v, .func (.func 110) #[] #[.pointer (some ⟨w.heap.size, 0, none⟩)]] w1 fun e w' => e = .returned (.bool (l.any fun y => decide (y.name = m.name))) ∧ Fr no w1 w') := by
    intro w1 f1
    have := containsMs_any w1 v ls ((h.kept HF.out).kept f1) w.heap.size _ (hbx.kept f1)
    simp only [] at this
    rwa [ha.any] at this
  have HB : Hid (∀ w1, Fr no W w1 → _) := fun w1 f1 => box8 (hbx.kept f1)
  clear hbx h ha hp hc hh
  by_cases hN : isName m.name = true
  · rw [hN] at N
    by_cases hP : eachE 6 ckTy m.params = 0
    · rw [hP] at HP
      by_cases hT : isType m.ret true = true
      · rw [hT] at T
        by_cases hA : (l.any fun y => decide (y.name = m.name)) = true
        · have HE : Hid (ckFace m l = 53) := by show _ = _; unfold ckFace; rw [if_pos hN, if_neg (by omega), if_pos hT, if_pos hA]
          rw [hA] at HC
          obtain ⟨b0, b1, b2, b3, b4, b5, b6, b7⟩ := HB.out W (Fr.refl no _)
          go_enter Tryz.func56, Tryz.ntmps56
          go_wp2_with fail
          refine (N _).mono ?_
          rintro e w1 ⟨rfl, hw1⟩
          rw [hw1]
          clear hw1 w1
          go_wp2_with fail
          refine (HP.out W (Fr.refl no _)).mono ?_
          rintro e w2 ⟨rfl, f2⟩
          clear b0 b1 b2 b3 b4 b5 b6 b7
          obtain ⟨b0, b1, b2, b3, b4, b5, b6, b7⟩ := HB.out w2 f2
          go_wp2_with fail
          refine (T _).mono ?_
          rintro e w3 ⟨rfl, f3⟩
          have f3' := f2.new f3 (fun _ _ f => f)
          go_wp2_with fail
          refine (HC.out w3 f3').mono ?_
          rintro e w4 ⟨rfl, f4⟩
          have f4' := f3'.new f4 (fun _ _ f => f)
          go_wp2_with fail
          go_ret
          rw [HE.out]
          exact ⟨rfl, HF.out.new f4' (fun _ _ f => f)⟩
        · have hA' : (l.any fun y => decide (y.name = m.name)) = false := by simpa using hA
          have HE : Hid (ckFace m l = 0) := by show _ = _; unfold ckFace; rw [if_pos hN, if_neg (by omega), if_pos hT, if_neg hA]
          rw [hA'] at HC
          obtain ⟨b0, b1, b2, b3, b4, b5, b6, b7⟩ := HB.out W (Fr.refl no _)
          go_enter Tryz.func56, Tryz.ntmps56
          go_wp2_with fail
          refine (N _).mono ?_
          rintro e w1 ⟨rfl, hw1⟩
          rw [hw1]
          clear hw1 w1
          go_wp2_with fail
          refine (HP.out W (Fr.refl no _)).mono ?_
          rintro e w2 ⟨rfl, f2⟩
          clear b0 b1 b2 b3 b4 b5 b6 b7
          obtain ⟨b0, b1, b2, b3, b4, b5, b6, b7⟩ := HB.out w2 f2
          go_wp2_with fail
          refine (T _).mono ?_
          rintro e w3 ⟨rfl, f3⟩
          have f3' := f2.new f3 (fun _ _ f => f)
          go_wp2_with fail
          refine (HC.out w3 f3').mono ?_
          rintro e w4 ⟨rfl, f4⟩
          have f4' := f3'.new f4 (fun _ _ f => f)
          go_wp2_with fail
          go_ret
          rw [HE.out]
          exact ⟨rfl, HF.out.new f4' (fun _ _ f => f)⟩
      · have hT' : isType m.ret true = false := by simpa using hT
        rw [hT'] at T
        have HE : Hid (ckFace m l = 50) := by show _ = _; unfold ckFace; rw [if_pos hN, if_neg (by omega), if_neg hT]
        obtain ⟨b0, b1, b2, b3, b4, b5, b6, b7⟩ := HB.out W (Fr.refl no _)
        go_enter Tryz.func56, Tryz.ntmps56
        go_wp2_with fail
        refine (N _).mono ?_
        rintro e w1 ⟨rfl, hw1⟩
        rw [hw1]
        clear hw1 w1
        go_wp2_with fail
        refine (HP.out W (Fr.refl no _)).mono ?_
        rintro e w2 ⟨rfl, f2⟩
        clear b0 b1 b2 b3 b4 b5 b6 b7
        obtain ⟨b0, b1, b2, b3, b4, b5, b6, b7⟩ := HB.out w2 f2
        go_wp2_with fail
        refine (T _).mono ?_
        rintro e w3 ⟨rfl, f3⟩
        have f3' := f2.new f3 (fun _ _ f => f)
        go_wp2_with fail
        go_ret
        rw [HE.out]
        exact ⟨rfl, HF.out.new f3' (fun _ _ f => f)⟩
    · have HE : Hid (ckFace m l = eachE 6 ckTy m.params) := by show _ = _; unfold ckFace; rw [if_pos hN, if_pos hP]
      have hP' : ((eachE 6 ckTy m.params : Int) == 0) = false := by simp; omega
      generalize eachE 6 ckTy m.params = err at *
      obtain ⟨b0, b1, b2, b3, b4, b5, b6, b7⟩ := HB.out W (Fr.refl no _)
      go_enter Tryz.func56, Tryz.ntmps56
      go_wp2_with fail
      refine (N _).mono ?_
      rintro e w1 ⟨rfl, hw1⟩
      rw [hw1]
      clear hw1 w1
      go_wp2_with fail
      refine (HP.out W (Fr.refl no _)).mono ?_
      rintro e w2 ⟨rfl, f2⟩
      clear b0 b1 b2 b3 b4 b5 b6 b7
      obtain ⟨b0, b1, b2, b3, b4, b5, b6, b7⟩ := HB.out w2 f2
      go_wp2_with fail
      go_ret
      rw [HE.out]
      exact ⟨rfl, HF.out.new f2 (fun _ _ f => f)⟩
  · have hN' : isName m.name = false := by simpa using hN
    rw [hN'] at N
    have HE : Hid (ckFace m l = 50) := by show _ = _; unfold ckFace; rw [if_neg hN]
    obtain ⟨b0, b1, b2, b3, b4, b5, b6, b7⟩ := HB.out W (Fr.refl no _)
    go_enter Tryz.func56, Tryz.ntmps56
    go_wp2_with fail
    refine (N _).mono ?_
    rintro e w1 ⟨rfl, hw1⟩
    rw [hw1]
    clear hw1 w1
    go_wp2_with fail
    go_ret
    rw [HE.out]
    exact ⟨rfl, HF.out.new (Fr.refl no _) (fun _ _ f => f)⟩
end Go.Proofs.YthncdbobjeeeaaaGreatDoor
