/- What Check tells of a class. -/
import Derived.Test.YthncdbobjeeeaaaGreatDoorAsk7
namespace Go.Proofs.YthncdbobjeeeaaaGreatDoor
open Go.ChangeShapes Go.WideShapes Go.ChangeAt Go.RowKit

/-- A class whose lists are slices. -/
structure Ks where
  name : ByteArray
  super : ByteArray
  p : Sv
  f : Sv
  m : Sv

/-- The slices of a class hold its lists. -/
structure ClAt (w : World) (s : Ks) (c : Cl) : Prop where
  name : s.name = c.name
  super : s.super = c.super
  p : SlG elCs w (.slice s.p.a s.p.n s.p.c) c.pool
  f : SlG elFd w (.slice s.f.a s.f.n s.f.c) c.fields
  m : ∃ ls, SlG elMs w (.slice s.m.a s.m.n s.m.c) ls ∧ AtAll w ls c.methods

theorem ClAt.kept {w w' : World} {s : Ks} {c : Cl} (h : ClAt w s c) (hf : Fr no w w') : ClAt w' s c :=
  ⟨h.name, h.super, h.p.kept hf, h.f.kept hf, h.m.elim fun ls hh => ⟨ls, hh.1.kept hf, hh.2.kept hf⟩⟩

def ksV (s : Ks) : Value := .agg #[.string s.name, .string s.super, .slice s.p.a s.p.n s.p.c, .slice s.f.a s.f.n s.f.c, .slice s.m.a s.m.n s.m.c]

/-- A class whose texts a machine can hold. -/
structure FitC (c : Cl) : Prop where
  name : fitS c.name
  super : fitS c.super
  pool : ∀ x ∈ c.pool, fitS x.c ∧ fitS x.m
  fields : ∀ x ∈ c.fields, fitS x.name ∧ fitS x.ty.c
  methods : ∀ m ∈ c.methods, FitM m

theorem face_params (m : Mt) (l : List Mt) (h : ckFace m l = 0) : m.params.length ≤ 6 := by
  unfold ckFace at h
  by_cases h1 : isName m.name = true
  · rw [if_pos h1] at h
    by_cases h2 : eachE 6 ckTy m.params = 0
    · unfold eachE at h2
      by_cases h3 : 6 < m.params.length
      · rw [if_pos h3] at h2; simp at h2
      · omega
    · rw [if_pos h2] at h; exact absurd h h2
  · rw [if_neg h1] at h; simp at h

/-- The block q holds a class. -/
def BoxK (w : World) (q : Nat) (s : Ks) : Prop := w.heap[q]? = some (.cells #[.string s.name, .string s.super, .slice s.p.a s.p.n s.p.c, .slice s.f.a s.f.n s.f.c, .slice s.m.a s.m.n s.m.c] 28 (0, 0))

theorem BoxK.kept {w w' : World} {q : Nat} {s : Ks} (h : BoxK w q s) (hf : Fr no w w') : BoxK w' q s := hf.heap h (fun f => f)

set_option maxRecDepth 100000 in
set_option maxHeartbeats 1000000 in
theorem askMt_any (w : World) (T : Tb w) (R : Tr w) (s : Ms) (m : Mt) (hm : MtAt w s m) (hf : FitM m) (v : Value) (ls : List Ms) (l : List Mt) (h : SlG elMs w v ls) (ha : AtAll w ls l) (q : Nat) (ks : Ks) (hq : BoxK w q ks) (pool : List Cs) (hp : SlG elCs w (.slice ks.p.a ks.p.n ks.p.c) pool) :
    Calls Tryz.prog 55 #[msV s, v, .pointer (some ⟨q, 0, none⟩)] w fun e w' => e = .returned (.int .i64 (ckMt pool m l : Int)) ∧ Fr no w w' := by
  have HF : Hid (Fr no w (w.alloc (.cells #[.string s.name, .slice s.p.a s.p.n s.p.c, .int .i64 s.ret.k, .string s.ret.c, .int .i64 s.lo, .int .i64 s.st, .slice s.c.a s.c.n s.c.c, .slice s.h.a s.h.n s.h.c] 53))) := (Fr.refl no w).alloc _ _
  have FA := checkFace_any _ s m (hm.kept HF.out) hf v ls l (h.kept HF.out) (ha.kept HF.out)
  have hb0 := heap_alloc_new w (.cells #[.string s.name, .slice s.p.a s.p.n s.p.c, .int .i64 s.ret.k, .string s.ret.c, .int .i64 s.lo, .int .i64 s.st, .slice s.c.a s.c.n s.c.c, .slice s.h.a s.h.n s.h.c] 53)
  have hq' := hq.kept HF.out
  unfold msV at *
  generalize hW : w.alloc (.cells #[.string s.name, .slice s.p.a s.p.n s.p.c, .int .i64 s.ret.k, .string s.ret.c, .int .i64 s.lo, .int .i64 s.st, .slice s.c.a s.c.n s.c.c, .slice s.h.a s.h.n s.h.c] 53) = W at *
  have BO : Hid (∀ w1, Fr no W w1 → m.params.length ≤ 1000000 → Calls Tryz.prog 57 #[.agg #[.string s.name, .slice s.p.a s.p.n s.p.c, .int .i64 s.ret.k, .string s.ret.c, .int .i64 s.lo, .int .i64 s.st, .slice s.c.a s.c.n s.c.c, .slice s.h.a s.h.n s.h.c], .slice ks.p.a ks.p.n ks.p.c] w1 fun e w' => e = .returned (.int .i64 (ckBody pool m : Int)) ∧ Fr no w1 w') :=
    fun w1 f1 hl => checkBody_any w1 (T.kept (HF.out.new f1 (fun _ _ f => f))) (R.kept (HF.out.new f1 (fun _ _ f => f))) s m (hm.kept (HF.out.new f1 (fun _ _ f => f))) hl _ pool (hp.kept (HF.out.new f1 (fun _ _ f => f)))
  have HB : Hid (∀ w1, Fr no W w1 → _) := fun w1 f1 => box8 (f1.heap hb0 (fun f => f))
  have HQ : Hid (∀ w1, Fr no W w1 → _) := fun w1 f1 => box5 (hq'.kept f1)
  obtain ⟨b0, b1, b2, b3, b4, b5, b6, b7⟩ := HB.out W (Fr.refl no _)
  have hne : ¬ w.heap.size = q := fun e => by have := lt_of_heap hq; omega
  clear hb0 hq' hq h ha hp hm
  by_cases hE : ckFace m l = 0
  · have HE : Hid (ckMt pool m l = ckBody pool m) := by show _ = _; unfold ckMt; rw [if_neg (fun h => h hE)]
    have HL : Hid (m.params.length ≤ 1000000) := Nat.le_trans (face_params m l hE) (by omega)
    rw [hE] at FA
    go_enter Tryz.func55, Tryz.ntmps55
    go_wp2_with fail
    refine FA.mono ?_
    rintro e w1 ⟨rfl, f1⟩
    clear b0 b1 b2 b3 b4 b5 b6 b7
    obtain ⟨b0, b1, b2, b3, b4, b5, b6, b7⟩ := HB.out w1 f1
    obtain ⟨q0, q1, q2, q3, q4⟩ := HQ.out w1 f1
    go_wp2_with fail
    refine (BO.out w1 f1 HL.out).mono ?_
    rintro e w2 ⟨rfl, f2⟩
    go_wp2_with fail
    go_ret
    rw [HE.out]
    exact ⟨rfl, (HF.out.new f1 (fun _ _ f => f)).new f2 (fun _ _ f => f)⟩
  · have HE : Hid (ckMt pool m l = ckFace m l) := by show _ = _; unfold ckMt; rw [if_pos hE]
    have hE' : ((ckFace m l : Int) == 0) = false := beq_eq_false_iff_ne.2 (by omega)
    generalize ckFace m l = err at *
    go_enter Tryz.func55, Tryz.ntmps55
    go_wp2_with fail
    refine FA.mono ?_
    rintro e w1 ⟨rfl, f1⟩
    go_wp2_with fail
    go_ret
    rw [HE.out]
    exact ⟨rfl, HF.out.new f1 (fun _ _ f => f)⟩

/-- What is asked of a method by its place. -/
def askAt (g : Mt → List Mt → Nat) (l : List Mt) (_ : Ms) (ah : List Ms) : Nat := match l[ah.length]? with | some m => g m (l.take ah.length) | none => 0

theorem firstE_at (g : Mt → List Mt → Nat) (l : List Mt) (rs : List Ms) : ∀ (r a : List Mt) (az : List Ms), l = a ++ r → az.length = a.length → rs.length = r.length → firstE (askAt g l) az rs = firstE g a r := by
  induction rs with
  | nil =>
    intro r a az _ _ hr
    cases r with
    | nil => rfl
    | cons _ _ => simp at hr
  | cons s rs ih =>
    intro r a az hl ha hr
    cases r with
    | nil => simp at hr
    | cons m r =>
      have e : askAt g l s az = g m a := by
        unfold askAt
        rw [hl, ha]
        simp
      unfold firstE
      rw [e, ih r (a ++ [m]) (az ++ [s]) (by simp [hl]) (by simp [ha]) (by simpa using hr)]

theorem eachE_at (g : Mt → List Mt → Nat) (l : List Mt) (ls : List Ms) (most : Nat) (h : ls.length = l.length) : eachE most (askAt g l) ls = eachE most g l := by
  unfold eachE
  rw [h, firstE_at g l ls l [] [] rfl rfl h]

theorem methods_any (w : World) (T : Tb w) (R : Tr w) (v : Value) (ls : List Ms) (l : List Mt) (h : SlG elMs w v ls) (ha : AtAll w ls l) (hf : ∀ m ∈ l, FitM m) (q : Nat) (ks : Ks) (hq : BoxK w q ks) (pool : List Cs) (hp : SlG elCs w (.slice ks.p.a ks.p.n ks.p.c) pool) :
    Calls Tryz.prog 54 #[v, .int .i64 12, .func (.func 55) #[] #[.pointer (some ⟨q, 0, none⟩)]] w fun e w' => e = .returned (.int .i64 (eachE 12 (ckMt pool) l : Int)) ∧ Fr no w w' := by
  rw [← eachE_at (ckMt pool) l ls 12 ha.1]
  refine eachMs_any w v ls h 12 (by omega) q (askAt (ckMt pool) l) (fun w' v' k x f1 hx hs => ?_)
  have hk : k < ls.length := (List.getElem?_eq_some_iff.1 hx).1
  obtain ⟨m, hm⟩ : ∃ m, l[k]? = some m := ⟨_, List.getElem?_eq_getElem (by rw [← ha.1]; exact hk)⟩
  have e : askAt (ckMt pool) l x (ls.take k) = ckMt pool m (l.take k) := by
    unfold askAt
    rw [List.length_take, Nat.min_eq_left (by omega), hm]
  rw [e]
  exact askMt_any w' (T.kept f1) (R.kept f1) x m ((ha.2 k x m hx hm).kept f1) (hf m (List.mem_of_getElem? hm)) v' (ls.take k) (l.take k) hs ((ha.kept f1).take k) q ks (hq.kept f1) pool (hp.kept f1)

theorem pool_any (w : World) (v : Value) (l : List Cs) (h : SlG elCs w v l) (hf : ∀ x ∈ l, fitS x.c ∧ fitS x.m) : Calls Tryz.prog 50 #[v, .int .i64 128, .func (.func 51) #[] #[]] w fun e w' => e = .returned (.int .i64 (eachE 128 (fun x _ => ckCs x) l : Int)) ∧ Fr no w w' :=
  eachCs_any w v l h 128 (by omega) (fun x _ => ckCs x) (fun w' v' k x _ hx _ => checkConst_any w' x (hf x (List.mem_of_getElem? hx)).1 (hf x (List.mem_of_getElem? hx)).2 v')

theorem fields_any (w : World) (v : Value) (l : List Fd) (h : SlG elFd w v l) (hf : ∀ x ∈ l, fitS x.name ∧ fitS x.ty.c) : Calls Tryz.prog 52 #[v, .int .i64 8, .func (.func 53) #[] #[]] w fun e w' => e = .returned (.int .i64 (eachE 8 ckFd l : Int)) ∧ Fr no w w' :=
  eachFd_any w v l h 8 (by omega) ckFd (fun w' v' k x _ hx hs => checkField_any w' x (hf x (List.mem_of_getElem? hx)).1 (hf x (List.mem_of_getElem? hx)).2 v' _ hs)

set_option maxRecDepth 100000 in
set_option maxHeartbeats 2000000 in
theorem check_any (w : World) (T : Tb w) (R : Tr w) (s : Ks) (c : Cl) (hc : ClAt w s c) (hf : FitC c) : Calls Tryz.prog 14 #[ksV s] w fun e w' => e = .returned (.int .i64 (chk c : Int)) ∧ Fr no w w' := by
  obtain ⟨sn, ss, sp, sf, sm⟩ := s
  obtain ⟨e1, e2, hp, hfi, ls, hm, hma⟩ := hc
  simp only [] at e1 e2 hp hfi hm
  subst e1 e2
  unfold ksV
  simp only []
  have HF : Hid (Fr no w (w.alloc (.cells #[.string c.name, .string c.super, .slice sp.a sp.n sp.c, .slice sf.a sf.n sf.c, .slice sm.a sm.n sm.c] 28))) := (Fr.refl no w).alloc _ _
  have hb0 : BoxK (w.alloc (.cells #[.string c.name, .string c.super, .slice sp.a sp.n sp.c, .slice sf.a sf.n sf.c, .slice sm.a sm.n sm.c] 28)) w.heap.size ⟨c.name, c.super, sp, sf, sm⟩ := heap_alloc_new w _
  generalize hW : w.alloc (.cells #[.string c.name, .string c.super, .slice sp.a sp.n sp.c, .slice sf.a sf.n sf.c, .slice sm.a sm.n sm.c] 28) = W at *
  have HB : Hid (∀ w1, Fr no W w1 → _) := fun w1 f1 => box5 (hb0.kept f1)
  have N1 := fun w1 => isName_any w1 c.name hf.name
  have N2 := fun w1 => isName_any w1 c.super hf.super
  have HP : Hid (∀ w1, Fr no W w1 → Calls Tryz.prog 50 #[.slice sp.a sp.n sp.c, .int .i64 128, .func (.func 51) #[] #[]] w1 fun e w' => e = .returned (.int .i64 (eachE 128 (fun x _ => ckCs x) c.pool : Int)) ∧ Fr no w1 w') := fun w1 f1 => pool_any w1 _ _ (hp.kept (HF.out.new f1 (fun _ _ f => f))) hf.pool
  have HFi : Hid (∀ w1, Fr no W w1 → Calls Tryz.prog 52 #[.slice sf.a sf.n sf.c, .int .i64 8, .func (.func 53) #[] #[]] w1 fun e w' => e = .returned (.int .i64 (eachE 8 ckFd c.fields : Int)) ∧ Fr no w1 w') := fun w1 f1 => fields_any w1 _ _ (hfi.kept (HF.out.new f1 (fun _ _ f => f))) hf.fields
  have HM : Hid (∀ w1, Fr no W w1 → Calls Tryz.prog 54 #[.slice sm.a sm.n sm.c, .int .i64 12, .func (.func 55) #[] #[.pointer (some ⟨w.heap.size, 0, none⟩)]] w1 fun e w' => e = .returned (.int .i64 (eachE 12 (ckMt c.pool) c.methods : Int)) ∧ Fr no w1 w') := by
    intro w1 f1
    have g1 := HF.out.new f1 (fun _ _ f => f)
    exact methods_any w1 (T.kept g1) (R.kept g1) _ ls c.methods (hm.kept g1) (hma.kept g1) hf.methods w.heap.size ⟨c.name, c.super, sp, sf, sm⟩ (hb0.kept f1) c.pool (hp.kept g1)
  have HK : Hid (chk c = if isName c.name = true ∧ (c.super = e0 ∨ isName c.super = true) then
    (if eachE 128 (fun x _ => ckCs x) c.pool ≠ 0 then eachE 128 (fun x _ => ckCs x) c.pool
     else if eachE 8 ckFd c.fields ≠ 0 then eachE 8 ckFd c.fields
     else eachE 12 (ckMt c.pool) c.methods)
  else 50) := rfl
  obtain ⟨b0, b1, b2, b3, b4⟩ := HB.out W (Fr.refl no _)
  clear hb0 hp hfi hm hma
  by_cases h1 : isName c.name = true
  · rw [h1] at N1
    by_cases h2 : c.super = e0
    · rw [if_pos ⟨h1, .inl h2⟩] at HK
      have q2 := emp_eq _ h2
      clear h2
      by_cases hP : eachE 128 (fun x _ => ckCs x) c.pool = 0
      · rw [if_neg (fun h => h hP)] at HK
        rw [hP] at HP
        by_cases hF : eachE 8 ckFd c.fields = 0
        · rw [if_neg (fun h => h hF)] at HK
          rw [hF] at HFi
          have HE := HK
          clear HK
          go_enter Tryz.func14, Tryz.ntmps14
          go_wp2_with fail
          refine (N1 _).mono ?_
          rintro e w1 ⟨rfl, hw1⟩
          rw [hw1]
          clear hw1 w1
          go_wp2_with fail
          refine (HP.out W (Fr.refl no _)).mono ?_
          rintro e w2 ⟨rfl, f2⟩
          clear b0 b1 b2 b3 b4
          obtain ⟨b0, b1, b2, b3, b4⟩ := HB.out w2 f2
          go_wp2_with fail
          refine (HFi.out w2 f2).mono ?_
          rintro e w3 ⟨rfl, f3⟩
          have f3' := f2.new f3 (fun _ _ f => f)
          clear b0 b1 b2 b3 b4 f3
          obtain ⟨b0, b1, b2, b3, b4⟩ := HB.out w3 f3'
          go_wp2_with fail
          refine (HM.out w3 f3').mono ?_
          rintro e w4 ⟨rfl, f4⟩
          have f4' := f3'.new f4 (fun _ _ f => f)
          go_wp2_with fail
          go_ret
          rw [HE.out]
          exact ⟨rfl, HF.out.new f4' (fun _ _ f => f)⟩
        · rw [if_pos hF] at HK
          have HE := HK
          clear HK
          have hF' : ((eachE 8 ckFd c.fields : Int) == 0) = false := beq_eq_false_iff_ne.2 (by omega)
          generalize eachE 8 ckFd c.fields = err at *
          go_enter Tryz.func14, Tryz.ntmps14
          go_wp2_with fail
          refine (N1 _).mono ?_
          rintro e w1 ⟨rfl, hw1⟩
          rw [hw1]
          clear hw1 w1
          go_wp2_with fail
          refine (HP.out W (Fr.refl no _)).mono ?_
          rintro e w2 ⟨rfl, f2⟩
          clear b0 b1 b2 b3 b4
          obtain ⟨b0, b1, b2, b3, b4⟩ := HB.out w2 f2
          go_wp2_with fail
          refine (HFi.out w2 f2).mono ?_
          rintro e w3 ⟨rfl, f3⟩
          have f3' := f2.new f3 (fun _ _ f => f)
          clear b0 b1 b2 b3 b4 f3
          obtain ⟨b0, b1, b2, b3, b4⟩ := HB.out w3 f3'
          go_wp2_with fail
          go_ret
          rw [HE.out]
          exact ⟨rfl, HF.out.new f3' (fun _ _ f => f)⟩
      · rw [if_pos hP] at HK
        have HE := HK
        clear HK
        have hP' : ((eachE 128 (fun x _ => ckCs x) c.pool : Int) == 0) = false := beq_eq_false_iff_ne.2 (by omega)
        generalize eachE 128 (fun x _ => ckCs x) c.pool = err at *
        go_enter Tryz.func14, Tryz.ntmps14
        go_wp2_with fail
        refine (N1 _).mono ?_
        rintro e w1 ⟨rfl, hw1⟩
        rw [hw1]
        clear hw1 w1
        go_wp2_with fail
        refine (HP.out W (Fr.refl no _)).mono ?_
        rintro e w2 ⟨rfl, f2⟩
        clear b0 b1 b2 b3 b4
        obtain ⟨b0, b1, b2, b3, b4⟩ := HB.out w2 f2
        go_wp2_with fail
        go_ret
        rw [HE.out]
        exact ⟨rfl, HF.out.new f2 (fun _ _ f => f)⟩
    · have q2 := emp_ne _ h2
      have q3 := emp_false _ h2
      by_cases h3 : isName c.super = true
      · rw [if_pos ⟨h1, .inr h3⟩] at HK
        rw [h3] at N2
        by_cases hP : eachE 128 (fun x _ => ckCs x) c.pool = 0
        · rw [if_neg (fun h => h hP)] at HK
          rw [hP] at HP
          by_cases hF : eachE 8 ckFd c.fields = 0
          · rw [if_neg (fun h => h hF)] at HK
            rw [hF] at HFi
            have HE := HK
            clear HK
            go_enter Tryz.func14, Tryz.ntmps14
            go_wp2_with fail
            refine (N1 _).mono ?_
            rintro e w1 ⟨rfl, hw1⟩
            rw [hw1]
            clear hw1 w1
            go_wp2_with fail
            refine (N2 _).mono ?_
            rintro e w1 ⟨rfl, hw1⟩
            rw [hw1]
            clear hw1 w1
            go_wp2_with fail
            refine (HP.out W (Fr.refl no _)).mono ?_
            rintro e w2 ⟨rfl, f2⟩
            clear b0 b1 b2 b3 b4
            obtain ⟨b0, b1, b2, b3, b4⟩ := HB.out w2 f2
            go_wp2_with fail
            refine (HFi.out w2 f2).mono ?_
            rintro e w3 ⟨rfl, f3⟩
            have f3' := f2.new f3 (fun _ _ f => f)
            clear b0 b1 b2 b3 b4 f3
            obtain ⟨b0, b1, b2, b3, b4⟩ := HB.out w3 f3'
            go_wp2_with fail
            refine (HM.out w3 f3').mono ?_
            rintro e w4 ⟨rfl, f4⟩
            have f4' := f3'.new f4 (fun _ _ f => f)
            go_wp2_with fail
            go_ret
            rw [HE.out]
            exact ⟨rfl, HF.out.new f4' (fun _ _ f => f)⟩
          · rw [if_pos hF] at HK
            have HE := HK
            clear HK
            have hF' : ((eachE 8 ckFd c.fields : Int) == 0) = false := beq_eq_false_iff_ne.2 (by omega)
            generalize eachE 8 ckFd c.fields = err at *
            go_enter Tryz.func14, Tryz.ntmps14
            go_wp2_with fail
            refine (N1 _).mono ?_
            rintro e w1 ⟨rfl, hw1⟩
            rw [hw1]
            clear hw1 w1
            go_wp2_with fail
            refine (N2 _).mono ?_
            rintro e w1 ⟨rfl, hw1⟩
            rw [hw1]
            clear hw1 w1
            go_wp2_with fail
            refine (HP.out W (Fr.refl no _)).mono ?_
            rintro e w2 ⟨rfl, f2⟩
            clear b0 b1 b2 b3 b4
            obtain ⟨b0, b1, b2, b3, b4⟩ := HB.out w2 f2
            go_wp2_with fail
            refine (HFi.out w2 f2).mono ?_
            rintro e w3 ⟨rfl, f3⟩
            have f3' := f2.new f3 (fun _ _ f => f)
            clear b0 b1 b2 b3 b4 f3
            obtain ⟨b0, b1, b2, b3, b4⟩ := HB.out w3 f3'
            go_wp2_with fail
            go_ret
            rw [HE.out]
            exact ⟨rfl, HF.out.new f3' (fun _ _ f => f)⟩
        · rw [if_pos hP] at HK
          have HE := HK
          clear HK
          have hP' : ((eachE 128 (fun x _ => ckCs x) c.pool : Int) == 0) = false := beq_eq_false_iff_ne.2 (by omega)
          generalize eachE 128 (fun x _ => ckCs x) c.pool = err at *
          go_enter Tryz.func14, Tryz.ntmps14
          go_wp2_with fail
          refine (N1 _).mono ?_
          rintro e w1 ⟨rfl, hw1⟩
          rw [hw1]
          clear hw1 w1
          go_wp2_with fail
          refine (N2 _).mono ?_
          rintro e w1 ⟨rfl, hw1⟩
          rw [hw1]
          clear hw1 w1
          go_wp2_with fail
          refine (HP.out W (Fr.refl no _)).mono ?_
          rintro e w2 ⟨rfl, f2⟩
          clear b0 b1 b2 b3 b4
          obtain ⟨b0, b1, b2, b3, b4⟩ := HB.out w2 f2
          go_wp2_with fail
          go_ret
          rw [HE.out]
          exact ⟨rfl, HF.out.new f2 (fun _ _ f => f)⟩
      · have HE : Hid (chk c = 50) := by show _ = _; rw [HK.out, if_neg (fun h => h.2.elim h2 h3)]
        have h3' : isName c.super = false := by simpa using h3
        rw [h3'] at N2
        clear HK
        go_enter Tryz.func14, Tryz.ntmps14
        go_wp2_with fail
        refine (N1 _).mono ?_
        rintro e w1 ⟨rfl, hw1⟩
        rw [hw1]
        clear hw1 w1
        go_wp2_with fail
        refine (N2 _).mono ?_
        rintro e w1 ⟨rfl, hw1⟩
        rw [hw1]
        clear hw1 w1
        go_wp2_with fail
        go_ret
        rw [HE.out]
        exact ⟨rfl, HF.out.new (Fr.refl no _) (fun _ _ f => f)⟩
  · have HE : Hid (chk c = 50) := by show _ = _; rw [HK.out, if_neg (fun h => h1 h.1)]
    have h1' : isName c.name = false := by simpa using h1
    rw [h1'] at N1
    clear HK
    go_enter Tryz.func14, Tryz.ntmps14
    go_wp2_with fail
    refine (N1 _).mono ?_
    rintro e w1 ⟨rfl, hw1⟩
    rw [hw1]
    clear hw1 w1
    go_wp2_with fail
    go_ret
    rw [HE.out]
    exact ⟨rfl, HF.out.new (Fr.refl no _) (fun _ _ f => f)⟩
end Go.Proofs.YthncdbobjeeeaaaGreatDoor
