/- What Check tells of a class. -/
import Derived.Test.YtalgjpmaafooeaaGreatDoorKac
import Derived.Test.YtalgjpmaafooeaaGreatDoorKaa
namespace Go.Proofs.YtalgjpmaafooeaaGreatDoor
open Go.ChangeShapes Go.WideShapes Go.ChangeAt Go.RowKit
structure Ks where
 name : ByteArray
 super : ByteArray
 p : Sv
 f : Sv
 m : Sv
structure ClAt (w : World) (s : Ks) (c : Cl) : Prop where
 name : s.name = c.name
 super : s.super = c.super
 p : SlG elCs w (.slice s.p.a s.p.n s.p.c) c.pool
 f : SlG elFd w (.slice s.f.a s.f.n s.f.c) c.fields
 m : ∃ ls, SlG elMs w (.slice s.m.a s.m.n s.m.c) ls ∧ AtAll w ls c.methods
theorem ClAt.kept {w w' : World} {s : Ks} {c : Cl} (h : ClAt w s c) (hf : Fr no w w') : ClAt w' s c :=
 ⟨h.name, h.super, h.p.kept hf, h.f.kept hf, h.m.elim fun ls hh => ⟨ls, hh.1.kept hf, hh.2.kept hf⟩⟩
def ksV (s : Ks) : Value := .agg #[.string s.name, .string s.super, .slice s.p.a s.p.n s.p.c, .slice s.f.a s.f.n s.f.c, .slice s.m.a s.m.n s.m.c]
structure FitC (c : Cl) : Prop where
 name : fitS c.name
 super : fitS c.super
 pool : ∀ x ∈ c.pool, fitS x.c ∧ fitS x.m
 fields : ∀ x ∈ c.fields, fitS x.name ∧ fitS x.ty.c
 methods : ∀ m ∈ c.methods, FitM m
theorem face_params (m : Mt) (l : List Mt) (h : ckFace m l = 0) : m.params.length ≤ 6 := by
 unfold ckFace at h
 by_cases h1 : isName m.name = true
 · rw [if_pos h1] at h
   by_cases h2 : eachE 6 ckTy m.params = 0
   · unfold eachE at h2
     by_cases h3 : 6 < m.params.length
     · rw [if_pos h3] at h2; simp at h2
     · omega
   · rw [if_pos h2] at h; exact absurd h h2
 · rw [if_neg h1] at h; simp at h
def BoxK (w : World) (q : Nat) (s : Ks) : Prop := w.heap[q]? = some (.cells #[.string s.name, .string s.super, .slice s.p.a s.p.n s.p.c, .slice s.f.a s.f.n s.f.c, .slice s.m.a s.m.n s.m.c] 51 (0, 0))
theorem BoxK.kept {w w' : World} {q : Nat} {s : Ks} (h : BoxK w q s) (hf : Fr no w w') : BoxK w' q s := hf.heap h (fun f => f)
set_option maxRecDepth 100000 in
set_option maxHeartbeats 1000000 in
theorem askMt_any (w : World) (T : Tb w) (R : Tr w) (s : Ms) (m : Mt) (hm : MtAt w s m) (hf : FitM m) (v : Value) (ls : List Ms) (l : List Mt) (h : SlG elMs w v ls) (ha : AtAll w ls l) (q : Nat) (ks : Ks) (hq : BoxK w q ks) (pool : List Cs) (hp : SlG elCs w (.slice ks.p.a ks.p.n ks.p.c) pool) :
 Calls Tryz.prog 40 #[msV s, v, .pointer (some ⟨q, 0, none⟩)] w fun e w' => e = .returned (.int .i64 (ckMt pool m l : Int)) ∧ Fr no w w' := by
 have HF : Hid (Fr no w (w.alloc (.cells #[.string s.name, .slice s.p.a s.p.n s.p.c, .int .i64 s.ret.k, .string s.ret.c, .int .i64 s.lo, .int .i64 s.st, .slice s.c.a s.c.n s.c.c, .slice s.h.a s.h.n s.h.c] 47))) := (Fr.refl no w).alloc _ _
 have FA := checkFace_any _ s m (hm.kept HF.out) hf v ls l (h.kept HF.out) (ha.kept HF.out)
 have hb0 := heap_alloc_new w (.cells #[.string s.name, .slice s.p.a s.p.n s.p.c, .int .i64 s.ret.k, .string s.ret.c, .int .i64 s.lo, .int .i64 s.st, .slice s.c.a s.c.n s.c.c, .slice s.h.a s.h.n s.h.c] 47)
 have hq' := hq.kept HF.out
 unfold msV at *
 generalize hW : w.alloc (.cells #[.string s.name, .slice s.p.a s.p.n s.p.c, .int .i64 s.ret.k, .string s.ret.c, .int .i64 s.lo, .int .i64 s.st, .slice s.c.a s.c.n s.c.c, .slice s.h.a s.h.n s.h.c] 47) = W at *
 have BO : Hid (∀ w1, Fr no W w1 → m.params.length ≤ 1000000 → Calls Tryz.prog 42 #[.agg #[.string s.name, .slice s.p.a s.p.n s.p.c, .int .i64 s.ret.k, .string s.ret.c, .int .i64 s.lo, .int .i64 s.st, .slice s.c.a s.c.n s.c.c, .slice s.h.a s.h.n s.h.c], .slice ks.p.a ks.p.n ks.p.c] w1 fun e w' => e = .returned (.int .i64 (ckBody pool m : Int)) ∧ Fr no w1 w') :=
  fun w1 f1 hl => checkBody_any w1 (T.kept (HF.out.new f1 (fun _ _ f => f))) (R.kept (HF.out.new f1 (fun _ _ f => f))) s m (hm.kept (HF.out.new f1 (fun _ _ f => f))) hl _ pool (hp.kept (HF.out.new f1 (fun _ _ f => f)))
 have HB : Hid (∀ w1, Fr no W w1 → _) := fun w1 f1 => box8 (f1.heap hb0 (fun f => f))
 have HQ : Hid (∀ w1, Fr no W w1 → _) := fun w1 f1 => box5 (hq'.kept f1)
 obtain ⟨b0, b1, b2, b3, b4, b5, b6, b7⟩ := HB.out W (Fr.refl no _)
 have hne : ¬ w.heap.size = q := fun e => by have := lt_of_heap hq; omega
 clear hb0 hq' hq h ha hp hm
 by_cases hE : ckFace m l = 0
 · have HE : Hid (ckMt pool m l = ckBody pool m) := by show _ = _; unfold ckMt; rw [if_neg (fun h => h hE)]
   have HL : Hid (m.params.length ≤ 1000000) := Nat.le_trans (face_params m l hE) (by omega)
   rw [hE] at FA
   go_enter Tryz.func40, Tryz.ntmps40
   go_wp2_with fail
   refine FA.mono ?_
   rintro e w1 ⟨rfl, f1⟩
   clear b0 b1 b2 b3 b4 b5 b6 b7
   obtain ⟨b0, b1, b2, b3, b4, b5, b6, b7⟩ := HB.out w1 f1
   obtain ⟨q0, q1, q2, q3, q4⟩ := HQ.out w1 f1
   go_wp2_with fail
   refine (BO.out w1 f1 HL.out).mono ?_
   rintro e w2 ⟨rfl, f2⟩
   go_wp2_with fail
   go_ret
   rw [HE.out]
   exact ⟨rfl, (HF.out.new f1 (fun _ _ f => f)).new f2 (fun _ _ f => f)⟩
 · have HE : Hid (ckMt pool m l = ckFace m l) := by show _ = _; unfold ckMt; rw [if_pos hE]
   have hE' : ((ckFace m l : Int) == 0) = false := beq_eq_false_iff_ne.2 (by omega)
   generalize ckFace m l = err at *
   go_enter Tryz.func40, Tryz.ntmps40
   go_wp2_with fail
   refine FA.mono ?_
   rintro e w1 ⟨rfl, f1⟩
   go_wp2_with fail
   go_ret
   rw [HE.out]
   exact ⟨rfl, HF.out.new f1 (fun _ _ f => f)⟩
def askAt (g : Mt → List Mt → Nat) (l : List Mt) (_ : Ms) (ah : List Ms) : Nat := match l[ah.length]? with | some m => g m (l.take ah.length) | none => 0
theorem firstE_at (g : Mt → List Mt → Nat) (l : List Mt) (rs : List Ms) : ∀ (r a : List Mt) (az : List Ms), l = a ++ r → az.length = a.length → rs.length = r.length → firstE (askAt g l) az rs = firstE g a r := by
 induction rs with
 | nil =>
  intro r a az _ _ hr
  cases r with
  | nil => rfl
  | cons _ _ => simp at hr
 | cons s rs ih =>
  intro r a az hl ha hr
  cases r with
  | nil => simp at hr
  | cons m r =>
   have e : askAt g l s az = g m a := by
    unfold askAt
    rw [hl, ha]
    simp
   unfold firstE
   rw [e, ih r (a ++ [m]) (az ++ [s]) (by simp [hl]) (by simp [ha]) (by simpa using hr)]
theorem eachE_at (g : Mt → List Mt → Nat) (l : List Mt) (ls : List Ms) (most : Nat) (h : ls.length = l.length) : eachE most (askAt g l) ls = eachE most g l := by
 unfold eachE
 rw [h, firstE_at g l ls l [] [] rfl rfl h]
theorem methods_any (w : World) (T : Tb w) (R : Tr w) (v : Value) (ls : List Ms) (l : List Mt) (h : SlG elMs w v ls) (ha : AtAll w ls l) (hf : ∀ m ∈ l, FitM m) (q : Nat) (ks : Ks) (hq : BoxK w q ks) (pool : List Cs) (hp : SlG elCs w (.slice ks.p.a ks.p.n ks.p.c) pool) :
 Calls Tryz.prog 39 #[v, .int .i64 12, .func (.func 40) #[] #[.pointer (some ⟨q, 0, none⟩)]] w fun e w' => e = .returned (.int .i64 (eachE 12 (ckMt pool) l : Int)) ∧ Fr no w w' := by
 rw [← eachE_at (ckMt pool) l ls 12 ha.1]
 refine eachMs_any w v ls h 12 (by omega) q (askAt (ckMt pool) l) (fun w' v' k x f1 hx hs => ?_)
 have hk : k < ls.length := (List.getElem?_eq_some_iff.1 hx).1
 obtain ⟨m, hm⟩ : ∃ m, l[k]? = some m := ⟨_, List.getElem?_eq_getElem (by rw [← ha.1]; exact hk)⟩
 have e : askAt (ckMt pool) l x (ls.take k) = ckMt pool m (l.take k) := by
  unfold askAt
  rw [List.length_take, Nat.min_eq_left (by omega), hm]
 rw [e]
 exact askMt_any w' (T.kept f1) (R.kept f1) x m ((ha.2 k x m hx hm).kept f1) (hf m (List.mem_of_getElem? hm)) v' (ls.take k) (l.take k) hs ((ha.kept f1).take k) q ks (hq.kept f1) pool (hp.kept f1)
theorem pool_any (w : World) (v : Value) (l : List Cs) (h : SlG elCs w v l) (hf : ∀ x ∈ l, fitS x.c ∧ fitS x.m) : Calls Tryz.prog 35 #[v, .int .i64 128, .func (.func 36) #[] #[]] w fun e w' => e = .returned (.int .i64 (eachE 128 (fun x _ => ckCs x) l : Int)) ∧ Fr no w w' :=
 eachCs_any w v l h 128 (by omega) (fun x _ => ckCs x) (fun w' v' k x _ hx _ => checkConst_any w' x (hf x (List.mem_of_getElem? hx)).1 (hf x (List.mem_of_getElem? hx)).2 v')
theorem fields_any (w : World) (v : Value) (l : List Fd) (h : SlG elFd w v l) (hf : ∀ x ∈ l, fitS x.name ∧ fitS x.ty.c) : Calls Tryz.prog 37 #[v, .int .i64 8, .func (.func 38) #[] #[]] w fun e w' => e = .returned (.int .i64 (eachE 8 ckFd l : Int)) ∧ Fr no w w' :=
 eachFd_any w v l h 8 (by omega) ckFd (fun w' v' k x _ hx hs => checkField_any w' x (hf x (List.mem_of_getElem? hx)).1 (hf x (List.mem_of_getElem? hx)).2 v' _ hs)
set_option maxRecDepth 100000 in
set_option maxHeartbeats 2000000 in
theorem check_any (w : World) (T : Tb w) (R : Tr w) (s : Ks) (c : Cl) (hc : ClAt w s c) (hf : FitC c) : Calls Tryz.prog 20 #[ksV s] w fun e w' => e = .returned (.int .i64 (chk c : Int)) ∧ Fr no w w' := by
 obtain ⟨sn, ss, sp, sf, sm⟩ := s
 obtain ⟨e1, e2, hp, hfi, ls, hm, hma⟩ := hc
 simp only [] at e1 e2 hp hfi hm
 subst e1 e2
 unfold ksV
 simp only []
 have HF : Hid (Fr no w (w.alloc (.cells #[.string c.name, .string c.super, .slice sp.a sp.n sp.c, .slice sf.a sf.n sf.c, .slice sm.a sm.n sm.c] 51))) := (Fr.refl no w).alloc _ _
 have hb0 : BoxK (w.alloc (.cells #[.string c.name, .string c.super, .slice sp.a sp.n sp.c, .slice sf.a sf.n sf.c, .slice sm.a sm.n sm.c] 51)) w.heap.size ⟨c.name, c.super, sp, sf, sm⟩ := heap_alloc_new w _
 generalize hW : w.alloc (.cells #[.string c.name, .string c.super, .slice sp.a sp.n sp.c, .slice sf.a sf.n sf.c, .slice sm.a sm.n sm.c] 51) = W at *
 have HB : Hid (∀ w1, Fr no W w1 → _) := fun w1 f1 => box5 (hb0.kept f1)
 have N1 := fun w1 => isName_any w1 c.name hf.name
 have N2 := fun w1 => isName_any w1 c.super hf.super
 have HP : Hid (∀ w1, Fr no W w1 → Calls Tryz.prog 35 #[.slice sp.a sp.n sp.c, .int .i64 128, .func (.func 36) #[] #[]] w1 fun e w' => e = .returned (.int .i64 (eachE 128 (fun x _ => ckCs x) c.pool : Int)) ∧ Fr no w1 w') := fun w1 f1 => pool_any w1 _ _ (hp.kept (HF.out.new f1 (fun _ _ f => f))) hf.pool
 have HFi : Hid (∀ w1, Fr no W w1 → Calls Tryz.prog 37 #[.slice sf.a sf.n sf.c, .int .i64 8, .func (.func 38) #[] #[]] w1 fun e w' => e = .returned (.int .i64 (eachE 8 ckFd c.fields : Int)) ∧ Fr no w1 w') := fun w1 f1 => fields_any w1 _ _ (hfi.kept (HF.out.new f1 (fun _ _ f => f))) hf.fields
 have HM : Hid (∀ w1, Fr no W w1 → Calls Tryz.prog 39 #[.slice sm.a sm.n sm.c, .int .i64 12, .func (.func 40) #[] #[.pointer (some ⟨w.heap.size, 0, none⟩)]] w1 fun e w' => e = .returned (.int .i64 (eachE 12 (ckMt c.pool) c.methods : Int)) ∧ Fr no w1 w') := by
  intro w1 f1
  have g1 := HF.out.new f1 (fun _ _ f => f)
  exact methods_any w1 (T.kept g1) (R.kept g1) _ ls c.methods (hm.kept g1) (hma.kept g1) hf.methods w.heap.size ⟨c.name, c.super, sp, sf, sm⟩ (hb0.kept f1) c.pool (hp.kept g1)
 have HK : Hid (chk c = if isName c.name = true ∧ (c.super = e0 ∨ isName c.super = true) then
  (if eachE 128 (fun x _ => ckCs x) c.pool ≠ 0 then eachE 128 (fun x _ => ckCs x) c.pool
   else if eachE 8 ckFd c.fields ≠ 0 then eachE 8 ckFd c.fields
   else eachE 12 (ckMt c.pool) c.methods)
 else 50) := rfl
 obtain ⟨b0, b1, b2, b3, b4⟩ := HB.out W (Fr.refl no _)
 clear hb0 hp hfi hm hma
 by_cases h1 : isName c.name = true
 · rw [h1] at N1
   by_cases h2 : c.super = e0
   · rw [if_pos ⟨h1, .inl h2⟩] at HK
     have q2 := emp_eq _ h2
     clear h2
     by_cases hP : eachE 128 (fun x _ => ckCs x) c.pool = 0
     · rw [if_neg (fun h => h hP)] at HK
       rw [hP] at HP
       by_cases hF : eachE 8 ckFd c.fields = 0
       · rw [if_neg (fun h => h hF)] at HK
         rw [hF] at HFi
         have HE := HK
         clear HK
         go_enter Tryz.func20, Tryz.ntmps20
         go_wp2_with fail
         refine (N1 _).mono ?_
         rintro e w1 ⟨rfl, hw1⟩
         rw [hw1]
         clear hw1 w1
         go_wp2_with fail
         refine (HP.out W (Fr.refl no _)).mono ?_
         rintro e w2 ⟨rfl, f2⟩
         clear b0 b1 b2 b3 b4
         obtain ⟨b0, b1, b2, b3, b4⟩ := HB.out w2 f2
         go_wp2_with fail
         refine (HFi.out w2 f2).mono ?_
         rintro e w3 ⟨rfl, f3⟩
         have f3' := f2.new f3 (fun _ _ f => f)
         clear b0 b1 b2 b3 b4 f3
         obtain ⟨b0, b1, b2, b3, b4⟩ := HB.out w3 f3'
         go_wp2_with fail
         refine (HM.out w3 f3').mono ?_
         rintro e w4 ⟨rfl, f4⟩
         have f4' := f3'.new f4 (fun _ _ f => f)
         go_wp2_with fail
         go_ret
         rw [HE.out]
         exact ⟨rfl, HF.out.new f4' (fun _ _ f => f)⟩
       · rw [if_pos hF] at HK
         have HE := HK
         clear HK
         have hF' : ((eachE 8 ckFd c.fields : Int) == 0) = false := beq_eq_false_iff_ne.2 (by omega)
         generalize eachE 8 ckFd c.fields = err at *
         go_enter Tryz.func20, Tryz.ntmps20
         go_wp2_with fail
         refine (N1 _).mono ?_
         rintro e w1 ⟨rfl, hw1⟩
         rw [hw1]
         clear hw1 w1
         go_wp2_with fail
         refine (HP.out W (Fr.refl no _)).mono ?_
         rintro e w2 ⟨rfl, f2⟩
         clear b0 b1 b2 b3 b4
         obtain ⟨b0, b1, b2, b3, b4⟩ := HB.out w2 f2
         go_wp2_with fail
         refine (HFi.out w2 f2).mono ?_
         rintro e w3 ⟨rfl, f3⟩
         have f3' := f2.new f3 (fun _ _ f => f)
         clear b0 b1 b2 b3 b4 f3
         obtain ⟨b0, b1, b2, b3, b4⟩ := HB.out w3 f3'
         go_wp2_with fail
         go_ret
         rw [HE.out]
         exact ⟨rfl, HF.out.new f3' (fun _ _ f => f)⟩
     · rw [if_pos hP] at HK
       have HE := HK
       clear HK
       have hP' : ((eachE 128 (fun x _ => ckCs x) c.pool : Int) == 0) = false := beq_eq_false_iff_ne.2 (by omega)
       generalize eachE 128 (fun x _ => ckCs x) c.pool = err at *
       go_enter Tryz.func20, Tryz.ntmps20
       go_wp2_with fail
       refine (N1 _).mono ?_
       rintro e w1 ⟨rfl, hw1⟩
       rw [hw1]
       clear hw1 w1
       go_wp2_with fail
       refine (HP.out W (Fr.refl no _)).mono ?_
       rintro e w2 ⟨rfl, f2⟩
       clear b0 b1 b2 b3 b4
       obtain ⟨b0, b1, b2, b3, b4⟩ := HB.out w2 f2
       go_wp2_with fail
       go_ret
       rw [HE.out]
       exact ⟨rfl, HF.out.new f2 (fun _ _ f => f)⟩
   · have q2 := emp_ne _ h2
     have q3 := emp_false _ h2
     by_cases h3 : isName c.super = true
     · rw [if_pos ⟨h1, .inr h3⟩] at HK
       rw [h3] at N2
       by_cases hP : eachE 128 (fun x _ => ckCs x) c.pool = 0
       · rw [if_neg (fun h => h hP)] at HK
         rw [hP] at HP
         by_cases hF : eachE 8 ckFd c.fields = 0
         · rw [if_neg (fun h => h hF)] at HK
           rw [hF] at HFi
           have HE := HK
           clear HK
           go_enter Tryz.func20, Tryz.ntmps20
           go_wp2_with fail
           refine (N1 _).mono ?_
           rintro e w1 ⟨rfl, hw1⟩
           rw [hw1]
           clear hw1 w1
           go_wp2_with fail
           refine (N2 _).mono ?_
           rintro e w1 ⟨rfl, hw1⟩
           rw [hw1]
           clear hw1 w1
           go_wp2_with fail
           refine (HP.out W (Fr.refl no _)).mono ?_
           rintro e w2 ⟨rfl, f2⟩
           clear b0 b1 b2 b3 b4
           obtain ⟨b0, b1, b2, b3, b4⟩ := HB.out w2 f2
           go_wp2_with fail
           refine (HFi.out w2 f2).mono ?_
           rintro e w3 ⟨rfl, f3⟩
           have f3' := f2.new f3 (fun _ _ f => f)
           clear b0 b1 b2 b3 b4 f3
           obtain ⟨b0, b1, b2, b3, b4⟩ := HB.out w3 f3'
           go_wp2_with fail
           refine (HM.out w3 f3').mono ?_
           rintro e w4 ⟨rfl, f4⟩
           have f4' := f3'.new f4 (fun _ _ f => f)
           go_wp2_with fail
           go_ret
           rw [HE.out]
           exact ⟨rfl, HF.out.new f4' (fun _ _ f => f)⟩
         · rw [if_pos hF] at HK
           have HE := HK
           clear HK
           have hF' : ((eachE 8 ckFd c.fields : Int) == 0) = false := beq_eq_false_iff_ne.2 (by omega)
           generalize eachE 8 ckFd c.fields = err at *
           go_enter Tryz.func20, Tryz.ntmps20
           go_wp2_with fail
           refine (N1 _).mono ?_
           rintro e w1 ⟨rfl, hw1⟩
           rw [hw1]
           clear hw1 w1
           go_wp2_with fail
           refine (N2 _).mono ?_
           rintro e w1 ⟨rfl, hw1⟩
           rw [hw1]
           clear hw1 w1
           go_wp2_with fail
           refine (HP.out W (Fr.refl no _)).mono ?_
           rintro e w2 ⟨rfl, f2⟩
           clear b0 b1 b2 b3 b4
           obtain ⟨b0, b1, b2, b3, b4⟩ := HB.out w2 f2
           go_wp2_with fail
           refine (HFi.out w2 f2).mono ?_
           rintro e w3 ⟨rfl, f3⟩
           have f3' := f2.new f3 (fun _ _ f => f)
           clear b0 b1 b2 b3 b4 f3
           obtain ⟨b0, b1, b2, b3, b4⟩ := HB.out w3 f3'
           go_wp2_with fail
           go_ret
           rw [HE.out]
           exact ⟨rfl, HF.out.new f3' (fun _ _ f => f)⟩
       · rw [if_pos hP] at HK
         have HE := HK
         clear HK
         have hP' : ((eachE 128 (fun x _ => ckCs x) c.pool : Int) == 0) = false := beq_eq_false_iff_ne.2 (by omega)
         generalize eachE 128 (fun x _ => ckCs x) c.pool = err at *
         go_enter Tryz.func20, Tryz.ntmps20
         go_wp2_with fail
         refine (N1 _).mono ?_
         rintro e w1 ⟨rfl, hw1⟩
         rw [hw1]
         clear hw1 w1
         go_wp2_with fail
         refine (N2 _).mono ?_
         rintro e w1 ⟨rfl, hw1⟩
         rw [hw1]
         clear hw1 w1
         go_wp2_with fail
         refine (HP.out W (Fr.refl no _)).mono ?_
         rintro e w2 ⟨rfl, f2⟩
         clear b0 b1 b2 b3 b4
         obtain ⟨b0, b1, b2, b3, b4⟩ := HB.out w2 f2
         go_wp2_with fail
         go_ret
         rw [HE.out]
         exact ⟨rfl, HF.out.new f2 (fun _ _ f => f)⟩
     · have HE : Hid (chk c = 50) := by show _ = _; rw [HK.out, if_neg (fun h => h.2.elim h2 h3)]
       have h3' : isName c.super = false := by simpa using h3
       rw [h3'] at N2
       clear HK
       go_enter Tryz.func20, Tryz.ntmps20
       go_wp2_with fail
       refine (N1 _).mono ?_
       rintro e w1 ⟨rfl, hw1⟩
       rw [hw1]
       clear hw1 w1
       go_wp2_with fail
       refine (N2 _).mono ?_
       rintro e w1 ⟨rfl, hw1⟩
       rw [hw1]
       clear hw1 w1
       go_wp2_with fail
       go_ret
       rw [HE.out]
       exact ⟨rfl, HF.out.new (Fr.refl no _) (fun _ _ f => f)⟩
 · have HE : Hid (chk c = 50) := by show _ = _; rw [HK.out, if_neg (fun h => h1 h.1)]
   have h1' : isName c.name = false := by simpa using h1
   rw [h1'] at N1
   clear HK
   go_enter Tryz.func20, Tryz.ntmps20
   go_wp2_with fail
   refine (N1 _).mono ?_
   rintro e w1 ⟨rfl, hw1⟩
   rw [hw1]
   clear hw1 w1
   go_wp2_with fail
   go_ret
   rw [HE.out]
   exact ⟨rfl, HF.out.new (Fr.refl no _) (fun _ _ f => f)⟩
end Go.Proofs.YtalgjpmaafooeaaGreatDoor
/- Rows of texts and numbers; places, ways up. -/
namespace Go.Proofs.YtalgjpmaafooeaaGreatDoor
open Go.ChangeShapes Go.WideShapes Go.ChangeAt Go.RowKit
def From (c : Nat) : Nat → Prop := fun k => c ≤ k
theorem Fr.and {w w1 w2 : World} (h : Fr no w w1) (k : Fr no w1 w2) : Fr no w w2 := h.new k (fun _ _ f => f)
theorem Fr.up {S : Nat → Prop} {w w1 : World} (h : Fr no w w1) : Fr S w w1 := h.mono (fun _ _ f => f.elim)
theorem Fr.fresh {w w1 w2 : World} (h : Fr no w w1) (k : Fr (From w.heap.size) w1 w2) : Fr no w w2 := h.new k (fun i hi f => by unfold From at f; omega)
namespace H
variable {P : Program} {a : Act} {w : World} {Q : Exit → Act → World → Prop}
theorem wp_label_two {c R0 R1 : Code} (l0 l1 : Nat) (hne : l1 ≠ l0) (J0 J1 : Act → World → Prop) (μ : Act → World → Nat) (hf0 : findLabel c l0 = some (.seq .skip R0)) (hf1 : findLabel c l1 = some (.seq .skip R1))
 (first : ∀ K : Exit → Act → World → Prop, (∀ a w, J0 a w → R0.wp P K a w) → (∀ a w, J1 a w → K (.goto l1) a w) → (∀ a w, Q .ret a w → K .ret a w) → c.wp P K a w)
 (pass0 : ∀ a w, J0 a w → ∀ K : Exit → Act → World → Prop, (∀ a' w', J0 a' w' → μ a' w' < μ a w → K (.goto l0) a' w') → (∀ a w, J1 a w → K (.goto l1) a w) → (∀ a w, Q .ret a w → K .ret a w) → R0.wp P K a w)
 (pass1 : ∀ a w, J1 a w → ∀ K : Exit → Act → World → Prop, (∀ a w, Q .ret a w → K .ret a w) → R1.wp P K a w) :
 (Code.scope c).wp P Q a w := by
 refine wp_labels (fun l a w => l = l0 ∧ J0 a w ∨ l = l1 ∧ J1 a w) (fun l a w => if l = l0 then μ a w + 1 else 0) ?_ ?_
 · exact first _ (fun a w h => pass0 a w h _ (fun _ _ h' _ => Or.inl ⟨rfl, h'⟩) (fun _ _ h' => Or.inr ⟨rfl, h'⟩) (fun _ _ h' => h')) (fun _ _ h' => Or.inr ⟨rfl, h'⟩) (fun _ _ h => h)
 · rintro l a w (⟨rfl, hj⟩ | ⟨rfl, hj⟩)
   · refine ⟨R0, hf0, pass0 a w hj _ (fun a' w' h' hl => ⟨Or.inl ⟨rfl, h'⟩, ?_⟩) (fun a' w' h' => ⟨Or.inr ⟨rfl, h'⟩, ?_⟩) (fun _ _ h' => h')⟩
     · simp only [if_true]; omega
     · rw [if_pos rfl, if_neg hne]; omega
   · exact ⟨R1, hf1, pass1 a w hj _ (fun _ _ h' => h')⟩
structure El (α : Type) where
 t : TypeId
 e : TypeId
 z : Value
 b : Nat
 f : α → Value
structure El.Ok {α : Type} (K : El α) : Prop where
 und : Tryz.prog.underlying K.t = some (.slice K.e)
 info : (Tryz.prog.info? K.e).map (fun i => (i.zero, i.size, i.bytes)) = some (some K.z, 1, K.b)
 one : ∀ x, (K.f x).oneCell' = true
 zlen : K.z.cells.size = 1
 bs : K.b ≤ 16
def elS : El ByteArray := ⟨75, 9, .string ByteArray.empty, 16, .string⟩
def elI : El Nat := ⟨25, 3, .int .i64 0, 8, fun n => .int .i64 (n : Int)⟩
theorem elS_ok : elS.Ok := ⟨Tryz.underlying75, by kernel_rfl, fun _ => rfl, rfl, by decide⟩
theorem elI_ok : elI.Ok := ⟨Tryz.underlying25, by kernel_rfl, fun _ => rfl, rfl, by decide⟩
variable {α : Type} {K : El α}
def cg (K : El α) (l : List α) : List Value := l.map K.f
theorem cg_append (l m : List α) : cg K l ++ cg K m = cg K (l ++ m) := by unfold cg; simp
theorem cg_length (l : List α) : (cg K l).length = l.length := by unfold cg; simp
theorem cg_get (l : List α) (i : Nat) (x : α) (h : l[i]? = some x) : (cg K l)[i]? = some (K.f x) := by unfold cg; rw [List.getElem?_map, h]; rfl
theorem cg_one (hK : K.Ok) (l : List α) : ∀ u ∈ cg K l, u.oneCell' = true := by
 intro u hu
 obtain ⟨x, _, rfl⟩ := List.mem_map.1 hu
 exact hK.one x
def OwnG (K : El α) (w : World) (v : Value) (l : List α) : Prop := w.ownsRow 0 K.e 1 v l.length (cg K l)
theorem OwnG.nil (K : El α) (w : World) : OwnG K w (.slice none 0 0) [] := World.ownsRow_nil _ _ _ _
theorem OwnG.lt {w : World} {v : Value} {l : List α} (h : OwnG K w v l) {k : Nat} (hk : v.ownBlock = some k) : k < w.heap.size := (World.ownsRow.lt h k hk).2
theorem OwnG.kept {S : Nat → Prop} {w w' : World} {v : Value} {l : List α} (h : OwnG K w v l) (hf : Fr S w w') (hS : ∀ k, v.ownBlock = some k → ¬ S k) : OwnG K w' v l := by
 refine ⟨h.1, ?_⟩
 rcases h.2 with hn | ⟨g, cap, cur, rfl, hb, hgg, rest⟩
 · exact .inl hn
 · exact .inr ⟨g, cap, cur, rfl, hb, hf.heap hgg (hS g rfl), rest⟩
theorem OwnG.keep {w w' : World} {v : Value} {l : List α} (h : OwnG K w v l) (hf : Fr no w w') : OwnG K w' v l := h.kept hf (fun _ _ f => f)
theorem OwnG.form {w : World} {v : Value} {l : List α} (h : OwnG K w v l) : ∃ o cap, v = .slice o l.length cap := by
 rcases h.2 with ⟨rfl, h0⟩ | ⟨g, cap, cur, rfl, _⟩
 · exact ⟨_, _, by rw [h0]⟩
 · exact ⟨_, _, rfl⟩
theorem OwnG.tag {w : World} {v : Value} {l : List α} (h : OwnG K w v l) {k : Nat} (hk : v.ownBlock = some k) : ∃ cur, w.heap[k]? = some (.cells cur K.e (0, 0)) := by
 rcases h.2 with ⟨rfl, _⟩ | ⟨g, cap, cur, rfl, hb, hgg, _⟩
 · simp [Value.ownBlock] at hk
 · simp [Value.ownBlock] at hk
   subst hk
   exact ⟨cur, hgg⟩
def Sp (v : Value) (w : World) (v' : Value) (w' : World) : Prop :=
 Fr (fun k => v.ownBlock = some k) w w' ∧ ∀ k, k < w.heap.size → v'.ownBlock = some k → v.ownBlock = some k
theorem run_apdG (hK : K.Ok) (w : World) (v : Value) (l : List α) (hown : OwnG K w v l) (x : Value) (m : List α) (hs : Src Tryz.prog 1 K.t x m.length (cg K m) w)
 (hb : l.length + m.length ≤ 1000000) :
 ∃ v' w', (Builtin.append_ #[K.t, K.t] K.t #[v, x]).run Tryz.prog w = .ok v' w' ∧ OwnG K w' v' (l ++ m) ∧ Sp v w v' w' := by
 obtain ⟨i0, hi, hz0, hz1, hz2⟩ := info_parts hK.info
 have ht := hK.und
 have hlen : (cg K (l ++ m)).length = (l ++ m).length * 1 := by rw [cg_length]; omega
 have hbs := hK.bs
 have hbb : (l.length + m.length) * K.b ≤ 1000000 * 16 := Nat.mul_le_mul hb hbs
 have grown : ∀ (b : Option Addr) (sCap : Nat), v = .slice b l.length sCap → sCap < l.length + m.length →
  (Builtin.firstCells i0.size l.length (.slice b l.length sCap)).run Tryz.prog w.drew = .ok (cg K l).toArray w.drew →
  ∃ v' w', (Builtin.append_ #[K.t, K.t] K.t #[v, x]).run Tryz.prog w = .ok v' w' ∧ OwnG K w' v' (l ++ m) ∧ Sp v w v' w' := by
  intro b sCap hv hlt hold
  subst hv
  have hr := run_append_grow_src (P := Tryz.prog) w K.t K.t K.t K.e i0 K.z ht hi hz0 b l.length sCap (cg K l) hold x m.length (cg K m) (by rw [hz1]; exact hs) hlt (by omega)
   (by rw [hz2]; exact growslice_fits (by omega) (by omega))
  have hge := grownCap_ge w (l.length + m.length) sCap K.e
  have hcm : grownCap w (l.length + m.length) sCap K.e ≤ maxLen := grownCap_le_maxLen w _ sCap K.e (by unfold maxLen; omega)
  refine ⟨_, _, hr, ⟨hlen, .inr ⟨w.heap.size, grownCap w (l.length + m.length) sCap K.e, _, ?_, Nat.zero_le _, heap_alloc_new w.drew _, ?_, hcm, ?_, ?_⟩⟩, ?_⟩
  · simp
  · simpa using hge
  · simp only [Array.size_append, List.size_toArray, size_zeroCells, List.length_append, cg_length]
    rw [hK.zlen]
    omega
  · rw [cg_append, Array.toList_append]
    simp only []
    rw [List.take_append_of_le_length (by rw [cg_length]; omega)]
    exact List.take_of_length_le (by rw [cg_length]; omega)
  · exact ⟨(Fr.refl _ w).drew.alloc _ _, fun k hk e => by simp [Value.ownBlock] at e; omega⟩
 rcases hown.2 with ⟨hv, hl0⟩ | ⟨g, cap, cur, hv, hbg, hg, hnc, hcm, hcs, htake⟩
 · have hl : l = [] := List.eq_nil_of_length_eq_zero hl0
   by_cases hm : m.length = 0
   · have hmn : m = [] := List.eq_nil_of_length_eq_zero hm
     subst hmn hl hv
     refine ⟨.slice none 0 0, w, ?_, OwnG.nil K w, ⟨Fr.refl _ _, fun _ _ h => h⟩⟩
     have h1 := hs.len
     have h2 := hs.cells
     rcases hs.kind with ⟨e', hk⟩ | hk <;> simp at h1 h2 <;> simp [Builtin.append_, run_underlying ht, sizeOf, typeInfo, hi, hz1, h1, h2, cg]
   · refine grown none 0 (by rw [hv, hl0]) (by omega) ?_
     subst hl
     simpa [cg] using run_firstCells_none (P := Tryz.prog) w.drew i0.size 0 0 0
 · by_cases hroom : l.length + m.length ≤ cap
   · subst hv
     have hst := run_storeCells_at Tryz.prog g (l.length * i0.size) K.e (cg K m) 0 cur w hg (by rw [hz1, cg_length]; omega) (cg_one hK m)
     simp only [Nat.add_zero] at hst
     refine ⟨.slice (some ⟨g, 0, none⟩) (l.length + m.length) cap, w.setRow g (cur.toList.take (l.length * i0.size) ++ cg K m ++ cur.toList.drop (l.length * i0.size + (cg K m).length)).toArray, ?_, ?_, ?_⟩
     · rcases hs.kind with ⟨e', hk⟩ | hk <;> simp [Builtin.append_, run_underlying ht, sizeOf, typeInfo, hi, hs.len, hroom, hz1, hs.cells, Addr.add_lit] <;> (rw [hz1] at hst; simp at hst; simp [hst])
     · refine ⟨hlen, .inr ⟨g, cap, _, by simp, hbg, setRow_heap w g cur _ K.e _ hg, by simpa using hroom, hcm, ?_, ?_⟩⟩
       · simp only [List.size_toArray, List.length_append, List.length_take, List.length_drop, Array.length_toList, cg_length, hz1]
         omega
       · rw [hz1, htake, cg_append]
         exact List.take_left' (by rw [cg_length]; omega)
     · exact ⟨⟨rfl, rfl, by rw [setRow_size]; exact Nat.le_refl _, fun k hk hs => setRow_other w g k _ (fun e => hs (by simp [Value.ownBlock, e])), fun a _ => frozen_setRow w g _ a⟩, fun k _ e => by simpa [Value.ownBlock] using e⟩
   · refine grown (some ⟨g, 0, none⟩) cap hv (by omega) ?_
     rw [hz1]
     refine run_firstCells_some (P := Tryz.prog) w.drew 1 l.length ⟨g, 0, none⟩ l.length cap (cg K l) (by rw [cg_length]; omega) ?_
     intro j u hj
     simpa using World.ownsRow.cells hown (g := g) (by rw [hv]; rfl) j u hj
theorem wpList_apdG (hK : K.Ok) (w : World) {ops : Array Oper} {rest : List Oper} {o : Oper} {a : Act} {Q : Exit → Act → World → Prop}
 (hg : o.guard = none) (ht : o.type = K.t) (s x : Operand) (hop : o.op = Op.call { callee := Callee.builtin Builtin.append, args := #[s, x], argTypes := #[K.t, K.t] })
 (v : Value) (l : List α) (hs : a.eval s = v) (hown : OwnG K w v l) (xv : Value) (hx : a.eval x = xv) (m : List α) (hsrc : Src Tryz.prog 1 K.t xv m.length (cg K m) w)
 (hb : l.length + m.length ≤ 1000000)
 (hK' : ∀ v' w', OwnG K w' v' (l ++ m) → Sp v w v' w' → wpList Tryz.prog ops Q rest (a.put o.dst v') w') :
 wpList Tryz.prog ops Q (o :: rest) a w := by
 refine wpList_plain hg fun K2 hK2 => ?_
 obtain ⟨v', w', hrun, r1, r2⟩ := run_apdG hK w v l hown xv m hsrc hb
 unfold Oper.wp
 simp [execOp, hop, ht, resolve, invoke, builtin, hs, hx, hrun, Result.andThen]
 exact hK2 _ _ (hK' v' w' r1 r2)
theorem srcG_one (hK : K.Ok) (w : World) (x : α) : Src Tryz.prog 1 K.t (.slice (some ⟨w.heap.size, 0, none⟩) 1 1) ([x] : List α).length (cg K [x]) (w.alloc (.cells #[K.f x] K.e)) :=
 Src.ofSlice _ hK.und _ _ _ _ (by simp [cg]) (fun j u hj => by
  have hb : (w.alloc (.cells #[K.f x] K.e)).heap[w.heap.size]? = some (.cells #[K.f x] K.e (0, 0)) := heap_alloc_new w _
  rw [Addr.add_lit]
  unfold World.cell?
  simp only [hb]
  simpa [cg] using hj) (cg_one hK _)
def SlG (K : El α) (w : World) (v : Value) (l : List α) : Prop :=
 ∃ ad cap, v = .slice ad l.length cap ∧ l.length ≤ cap ∧ cap ≤ maxLen ∧ (ad = none → l = [] ∧ cap = 0) ∧ ∀ (i : Nat) (x : α), l[i]? = some x → ∃ b off, ad = some ⟨b, off, none⟩ ∧ w.cell? ⟨b, off + i, none⟩ = some (K.f x)
theorem SlG.keep {w w' : World} {v : Value} {l : List α} (h : SlG K w v l) (hf : Fr no w w') : SlG K w' v l := by
 obtain ⟨ad, cap, rfl, h1, h2, h0, h3⟩ := h
 refine ⟨ad, cap, rfl, h1, h2, h0, fun i x hx => ?_⟩
 obtain ⟨b, off, rfl, hc⟩ := h3 i x hx
 exact ⟨b, off, rfl, hf.cell hc (fun f => f)⟩
theorem OwnG.sl {w : World} {v : Value} {l : List α} (h : OwnG K w v l) : SlG K w v l := by
 have h' := h
 rcases h.2 with ⟨rfl, h0⟩ | ⟨g, cap, cur, rfl, hb, hgg, hn, hm, hs, ht⟩
 · have : l = [] := List.eq_nil_of_length_eq_zero h0
   subst this
   exact ⟨none, 0, rfl, Nat.zero_le _, Nat.zero_le _, fun _ => ⟨rfl, rfl⟩, fun i x hx => by simp at hx⟩
 · refine ⟨_, cap, rfl, hn, hm, fun e => by simp at e, fun i x hx => ⟨g, 0, rfl, ?_⟩⟩
   have := World.ownsRow.cells h' (g := g) rfl i _ (cg_get l i x hx)
   rw [Addr.add_lit] at this
   exact this
theorem SlG.src (hK : K.Ok) {w : World} {v : Value} {l : List α} (h : SlG K w v l) : Src Tryz.prog 1 K.t v l.length (cg K l) w := by
 obtain ⟨ad, cap, rfl, h1, h2, h0, h3⟩ := h
 cases ad with
 | none =>
  obtain ⟨rfl, rfl⟩ := h0 rfl
  exact Src.ofNil _ hK.und _
 | some a =>
  refine Src.ofSlice _ hK.und _ _ _ _ (by rw [cg_length]; omega) (fun j u hj => ?_) (cg_one hK _)
  unfold cg at hj
  rw [List.getElem?_map] at hj
  cases e : l[j]? with
  | none => rw [e] at hj; simp at hj
  | some x =>
   rw [e] at hj
   simp only [Option.map_some, Option.some.injEq] at hj
   subst hj
   obtain ⟨b, off, ha, hc⟩ := h3 j x e
   simp only [Option.some.injEq] at ha
   subst ha
   rw [Addr.add_lit]
   exact hc
theorem own_made (w : World) (n : Nat) (h : n ≤ maxLen) : OwnG K (w.alloc (.cells (madeCells K.z.cells n) K.e)) (.slice (some ⟨w.heap.size, 0, none⟩) 0 n) [] :=
 World.ownsRow_made w _ n (Nat.zero_le _) h (by rw [size_madeCells, Nat.mul_one])
theorem run_makeG (hK : K.Ok) (w : World) (n : Nat) (h : n ≤ 1000) :
 (Instr.makeSlice K.t (.int .i64 0) (.int .i64 (n : Int))).run Tryz.prog w = .ok (.slice (some ⟨w.heap.size, 0, none⟩) 0 n) (w.alloc (.cells (madeCells K.z.cells n) K.e)) := by
 obtain ⟨i0, hi, hz0, hz1, hz2⟩ := info_parts hK.info
 have hb := hK.bs
 have hbb : (K.b : Int) * (n : Int) ≤ 16 * 1000 := Int.mul_le_mul (by omega) (by omega) (by omega) (by omega)
 have hl := hK.zlen
 have := _root_.Go.run_make w K.t K.e i0 K.z hK.und hi hz0 .i64 .i64 0 (n : Int) (by omega) (by omega) (by rw [hz2]; omega) (by omega)
 rw [hz1] at this
 simpa using this
theorem own_lit (w : World) (l : List α) (cs : Array Value) (hc : cs = (cg K l).toArray) (h : l.length ≤ maxLen) : OwnG K (w.alloc (.cells cs K.e)) (.slice (some ⟨w.heap.size, 0, none⟩) l.length l.length) l := by
 subst hc
 refine ⟨by rw [cg_length]; omega, .inr ⟨w.heap.size, l.length, (cg K l).toArray, rfl, Nat.zero_le _, heap_alloc_new w _, Nat.le_refl _, h, ?_, ?_⟩⟩
 · simp [cg_length]
 · simp only [Nat.mul_one]
   exact List.take_of_length_le (by simp [cg_length])
def ix (s : ByteArray) : List ByteArray → Option Nat
 | [] => none
 | x :: l => if x = s then some 0 else (ix s l).map (· + 1)
theorem ix_snoc (s x : ByteArray) (l : List ByteArray) : ix s (l ++ [x]) = match ix s l with | some i => some i | none => if x = s then some l.length else none := by
 induction l with
 | nil => by_cases h : x = s <;> simp [ix, h]
 | cons y l ih =>
  by_cases h : y = s
  · simp [ix, h]
  · simp only [List.cons_append, ix, if_neg h, ih]
    cases ix s l with
    | some i => rfl
    | none =>
     by_cases hx : x = s <;> simp [hx]
theorem ix_get {s : ByteArray} : ∀ {l : List ByteArray} {i : Nat}, ix s l = some i → l[i]? = some s
 | [], i, h => by simp [ix] at h
 | x :: l, i, h => by
  unfold ix at h
  by_cases hx : x = s
  · rw [if_pos hx] at h
    simp only [Option.some.injEq] at h
    subst h
    simp [hx]
  · rw [if_neg hx] at h
    cases hj : ix s l with
    | none => rw [hj] at h; simp at h
    | some j =>
     rw [hj] at h
     simp only [Option.map_some, Option.some.injEq] at h
     subst h
     simpa using ix_get hj
theorem ix_lt {s : ByteArray} {l : List ByteArray} {i : Nat} (h : ix s l = some i) : i < l.length := (List.getElem?_eq_some_iff.1 (ix_get h)).1
theorem ix_none {s : ByteArray} : ∀ {l : List ByteArray}, ix s l = none ↔ s ∉ l
 | [] => by simp [ix]
 | x :: l => by
  unfold ix
  by_cases hx : x = s
  · simp [hx]
  · rw [if_neg hx, Option.map_eq_none_iff, ix_none (l := l)]
    simp [Ne.symm hx]
def inL (s : ByteArray) (l : List ByteArray) : Bool := l.any fun x => decide (x = s)
theorem inL_iff {s : ByteArray} {l : List ByteArray} : inL s l = true ↔ s ∈ l := by
 unfold inL
 rw [List.any_eq_true]
 constructor
 · rintro ⟨x, hx, e⟩
   exact of_decide_eq_true e ▸ hx
 · intro h
   exact ⟨s, h, decide_eq_true rfl⟩
theorem ix_first {s : ByteArray} : ∀ {l : List ByteArray} {k : Nat}, l[k]? = some s → s ∉ l.take k → ix s l = some k
 | [], k, h, _ => by simp at h
 | x :: l, 0, h, _ => by simp at h; simp [ix, h]
 | x :: l, k + 1, h, hn => by
  simp only [List.take_succ_cons, List.mem_cons, not_or] at hn
  unfold ix
  rw [if_neg (Ne.symm hn.1), ix_first (k := k) (by simpa using h) hn.2]
  rfl
theorem ix_nodup {l : List ByteArray} (hn : l.Nodup) {i : Nat} {s : ByteArray} (h : l[i]? = some s) : ix s l = some i := by
 refine ix_first h (fun hm => ?_)
 obtain ⟨j, hj⟩ := List.mem_iff_getElem?.1 hm
 rw [List.getElem?_take] at hj
 split at hj
 · rename_i hlt
   obtain ⟨hi', e1⟩ := List.getElem?_eq_some_iff.1 h
   obtain ⟨hj', e2⟩ := List.getElem?_eq_some_iff.1 hj
   have := (List.getElem_inj hn (h₀ := hj') (h₁ := hi')).1 (e2.trans e1.symm)
   omega
 · simp at hj
def up (A : List Nat) : Nat → Nat → List Nat × Bool
 | 0, _ => ([], false)
 | f + 1, i => if i = 0 then ([0], true) else (i :: (up A f (A.getD i 0)).1, (up A f (A.getD i 0)).2)
theorem up_len (A : List Nat) : ∀ f i, (up A f i).1.length ≤ f
 | 0, _ => Nat.le_refl _
 | f + 1, i => by
  unfold up
  split
  · simp
  · simp only [List.length_cons]
    have := up_len A f (A.getD i 0)
    omega
def Fine (n : Nat) (A : List Nat) : Prop := A.length = n ∧ ∀ i, A.getD i 0 < n
theorem up_lt {n : Nat} {A : List Nat} (h : Fine n A) : ∀ f i, i < n → ∀ j ∈ (up A f i).1, j < n
 | 0, _, _, j, hj => by simp [up] at hj
 | f + 1, i, hi, j, hj => by
  unfold up at hj
  split at hj
  · simp at hj; omega
  · simp only [List.mem_cons] at hj
    rcases hj with rfl | hj
    · exact hi
    · exact up_lt h f _ (h.2 i) j hj
def nameAt (N : List ByteArray) (i : Nat) : ByteArray := N.getD i ByteArray.empty
def anc (N : List ByteArray) (A : List Nat) (s : ByteArray) : List ByteArray :=
 match ix s N with
 | none => []
 | some i => (up A N.length i).1.map (nameAt N)
def ring (n : Nat) (A : List Nat) : Bool := (List.range n).any fun i => !(up A n i).2
theorem streq (s t : ByteArray) : (s.toList == t.toList) = decide (s = t) := by
 by_cases h : s = t
 · subst h; simp
 · rw [decide_eq_false h, ByteArray.toList_eq, ByteArray.toList_eq]
   simp only [beq_eq_false_iff_ne, ne_eq]
   intro e
   exact h (ByteArray.ext (by simpa using congrArg List.toArray e))
end H
end Go.Proofs.YtalgjpmaafooeaaGreatDoor
/- The classes of types in memory; ways up. -/
namespace Go.Proofs.YtalgjpmaafooeaaGreatDoor
open Go.ChangeShapes Go.WideShapes Go.ChangeAt Go.RowKit
namespace H
theorem keyed : Maps.Keyed Tryz.prog 9 := Maps.string_keyed Tryz.underlying9
theorem zero3 (w : World) : (zeroValue 3).run Tryz.prog w = .ok (.int .i64 0) w := by kernel_rfl
def ky (s : ByteArray) : Lit := .string s.data.toList
theorem ky_inj {s t : ByteArray} (h : ky s = ky t) : s = t := by
 unfold ky at h
 simp only [Lit.string.injEq] at h
 exact ByteArray.ext (by simpa using congrArg List.toArray h)
theorem ky_key {s : ByteArray} (hs : s.size ≤ 1099511627776) : keyOf Tryz.prog 9 (.string s) = some (ky s) := WideMaps.keyOf_string_mk Tryz.underlying9 (by unfold maxLen; omega)
def MapOf (D : DataW Unit) (N : List ByteArray) : Prop :=
 Maps.IsMap D ∧ ∀ s, Maps.has D (ky s) = (ix s N).isSome ∧ ∀ i, ix s N = some i → D.atKey (ky s) (.lit (.int .i64 0)) = .lit (.int .i64 (i : Int))
theorem ky_lit (s : ByteArray) : WideAt.IsKeyLit (ky s) := trivial
theorem mapOf_nil : MapOf (.map []) [] := ⟨Maps.isMap_empty, fun s => ⟨rfl, fun i h => by simp [ix] at h⟩⟩
theorem mapOf_put {D : DataW Unit} {N : List ByteArray} (h : MapOf D N) {s : ByteArray} (hs : ix s N = none) : MapOf (D.put (ky s) (.lit (.int .i64 (N.length : Int)))) (N ++ [s]) := by
 refine ⟨h.1.put _ _, fun t => ?_⟩
 rw [ix_snoc]
 by_cases e : s = t
 · subst e
   rw [hs]
   refine ⟨by rw [Maps.has_put_same h.1 (ky_lit s)]; simp, fun i hi => ?_⟩
   simp only [if_true, Option.some.injEq] at hi
   subst hi
   exact Maps.atKey_put_same h.1 (ky_lit s) _ _
 · have hne : ky t ≠ ky s := fun k => e (ky_inj k).symm
   obtain ⟨h1, h2⟩ := h.2 t
   rw [Maps.has_put_other hne, Maps.atKey_put_other hne, h1]
   cases hi : ix t N with
   | some i => exact ⟨rfl, fun j hj => h2 j (hi.trans hj)⟩
   | none => simp [e]
abbrev Owns (w : World) (m n : Nat) (D : DataW Unit) : Prop := w.ownsMap (H := Unit) Tryz.prog 9 (plainElem Tryz.prog 3) m n D
def HB (c : Nat) (w : World) (p : Nat) (N : List ByteArray) (A : List Nat) : Prop :=
 ∃ vn va m D, w.heap[p]? = some (.cells #[vn, .map (some m), va] 116 (0, 0)) ∧ OwnG elS w vn N ∧ OwnG elI w va A ∧ Owns w m N.length D ∧ MapOf D N ∧
  c ≤ p ∧ c ≤ m ∧ (∀ k, vn.ownBlock = some k → c ≤ k) ∧ (∀ k, va.ownBlock = some k → c ≤ k)
theorem owns_keep {S : Nat → Prop} {w w' : World} {m n : Nat} {D : DataW Unit} (h : Owns w m n D) (hf : Fr S w w') (hS : ¬ S m) : Owns w' m n D := by
 have hlt := h.lt
 obtain ⟨es, clock, hb, F, hs, hD⟩ := h
 exact ⟨es, clock, (hf.block m hlt hS).trans hb, F, hs, hD⟩
theorem HB.keep {c : Nat} {w w' : World} {p : Nat} {N : List ByteArray} {A : List Nat} (h : HB c w p N A) (hf : Fr no w w') : HB c w' p N A := by
 obtain ⟨vn, va, m, D, h1, h2, h3, h4, h5, h6⟩ := h
 exact ⟨vn, va, m, D, hf.heap h1 (fun f => f), h2.keep hf, h3.keep hf, owns_keep h4 hf (fun f => f), h5, h6⟩
theorem cells3 {w : World} {p : Nat} {x y z : Value} {t : TypeId} (h : w.heap[p]? = some (.cells #[x, y, z] t (0, 0))) :
 w.cell? ⟨p, 0, none⟩ = some x ∧ w.cell? ⟨p, 1, none⟩ = some y ∧ w.cell? ⟨p, 2, none⟩ = some z := by
 refine ⟨?_, ?_, ?_⟩ <;> simp [World.cell?, h]
theorem look {w : World} {m n : Nat} {D : DataW Unit} {N : List ByteArray} (h : Owns w m n D) (hm : MapOf D N) (s : ByteArray) (hs : s.size ≤ 1099511627776) :
 ∃ c : Int, (Instr.lookup 114 (.map (some m)) (.string s) true).run Tryz.prog w = .ok (.tuple #[.int .i64 c, .bool (ix s N).isSome]) w ∧ ∀ i : Nat, ix s N = some i → c = (i : Int) := by
 obtain ⟨v, ps, hrun, hv⟩ := h.look_ok keyed Tryz.underlying114 (zero3 w) (plainElem_int Tryz.underlying3 (by decide)) (ky_key hs)
 obtain ⟨c, rfl, hc, -⟩ := plainElem_int_inv Tryz.underlying3 hv
 rw [(hm.2 s).1] at hrun
 refine ⟨c, hrun, fun i hi => ?_⟩
 have := (hm.2 s).2 i hi
 have e := congrArg Prod.fst hc
 simp only [] at e
 rw [this] at e
 simpa using e.symm
theorem has_any {c : Nat} (w : World) (p : Nat) (N : List ByteArray) (A : List Nat) (h : HB c w p N A) (s : ByteArray) (hs : s.size ≤ 1099511627776) :
 Calls Tryz.prog 79 #[.pointer (some ⟨p, 0, none⟩), .string s] w fun e w' => e = .returned (.bool (ix s N).isSome) ∧ w' = w := by
 obtain ⟨vn, va, m, D, h1, h2, h3, h4, h5, h6⟩ := h
 obtain ⟨_, hc1, _⟩ := cells3 h1
 obtain ⟨x, hrun, _⟩ := look h4 h5 s hs
 clear h1 h2 h3 h4 h5 h6
 generalize (ix s N).isSome = b at *
 go_enter Tryz.func79, Tryz.ntmps79
 go_wp2_with fail
 go_ret
 exact ⟨rfl, rfl⟩
def NewV (w : World) (v : Value) : Prop := ∀ k, v.ownBlock = some k → w.heap.size ≤ k
theorem NewV.nil (w : World) : NewV w (.slice none 0 0) := fun k h => by simp [Value.ownBlock] at h
theorem NewV.step {w wr w' : World} {v v' : Value} (h : NewV w v) (f : Fr no w wr) (s : Sp v wr v' w') : NewV w v' ∧ Fr no w w' := by
 refine ⟨fun k hk => ?_, f.new s.1 (fun i hi e => ?_)⟩
 · by_cases hlt : k < wr.heap.size
   · exact h k (s.2 k hlt hk)
   · have := f.size; omega
 · have := h i e; omega
def lenOf : Value → Nat
 | .slice _ k _ => k
 | _ => 0
def WayAt (w : World) (p : Nat) (A : List Nat) (n i0 : Nat) (a : Act) (wr : World) : Prop :=
 ∃ (i : Nat) (v : Value) (P : List Nat) (u2 u3 u6 u7 u8 u9 u10 u11 u12 u13 u14 u15 u16 u17 u18 u19 u20 u21 u22 u23 u24 u25 u26 u27 u28 : Value), a = { tmps := #[.pointer (some ⟨p, 0, none⟩), .int .i64 (i : Int), u2, u3, v, .bool false, u6, u7, u8, u9, u10, u11, u12, u13, u14, u15, u16, u17, u18, u19, u20, u21, u22, u23, u24, u25, u26, u27, u28], defers := [] } ∧ i < n ∧ P.length ≤ n ∧ OwnG elI wr v P ∧ NewV w v ∧ Fr no w wr ∧
  up A n i0 = (P ++ (up A (n - P.length) i).1, (up A (n - P.length) i).2)
def OutAt (w : World) (A : List Nat) (n i0 : Nat) (a : Act) (wr : World) : Prop :=
 ∃ (u0 u1 u2 u3 u6 u7 u8 u9 u10 u11 u12 u13 u14 u15 u16 u17 u18 u19 u20 u21 u22 u23 u24 u25 u26 u27 u28 : Value) (v : Value) (b : Bool), a = { tmps := #[u0, u1, u2, u3, v, .bool b, u6, u7, u8, u9, u10, u11, u12, u13, u14, u15, u16, u17, u18, u19, u20, u21, u22, u23, u24, u25, u26, u27, u28], defers := [] } ∧ OwnG elI wr v (up A n i0).1 ∧ NewV w v ∧ Fr no w wr ∧ b = (up A n i0).2
set_option maxRecDepth 100000 in
set_option maxHeartbeats 1000000 in
theorem way_any {c : Nat} (w : World) (p : Nat) (N : List ByteArray) (A : List Nat) (h : HB c w p N A) (hA : Fine N.length A) (hN : N.length ≤ 1000) (i0 : Nat) (hi0 : i0 < N.length) :
 Calls Tryz.prog 80 #[.pointer (some ⟨p, 0, none⟩), .int .i64 (i0 : Int)] w fun e w' => ∃ v, e = .returned (.tuple #[v, .bool (up A N.length i0).2]) ∧ OwnG elI w' v (up A N.length i0).1 ∧ NewV w v ∧ Fr no w w' := by
 have HBK : Hid (HB c w p N A) := h
 clear h
 generalize hn : N.length = n at *
 go_enter Tryz.func80, Tryz.ntmps80
 go_wp2_with fail
 refine wp_label_two 1 0 (by decide) (WayAt w p A n i0) (OutAt w A n i0) (fun a' _ => n - lenOf (a'.tmps.getD 4 undef)) rfl rfl ?_ ?_ ?_
 · intro K h0 h1 hr
   go_wp2_with fail
   go_step3
   rename_i hk
   exact hk _ _ (h0 _ _ ⟨i0, _, [], _, _, _, _, _, _, _, _, _, _, _, _, _, _, _, _, _, _, _, _, _, _, _, _, _, rfl, hi0, Nat.zero_le _, OwnG.nil _ _, NewV.nil _, Fr.refl _ _, by simp⟩)
 · rintro a' wr ⟨i, v, P, u2, u3, u6, u7, u8, u9, u10, u11, u12, u13, u14, u15, u16, u17, u18, u19, u20, u21, u22, u23, u24, u25, u26, u27, u28, rfl, hi, hP, ho, hv, hf, he⟩ K hj h1 hr
   obtain ⟨o, cp, hvf⟩ := ho.form
   have HE : Hid (up A n i0 = (P ++ (up A (n - P.length) i).1, (up A (n - P.length) i).2)) := he
   have HO : Hid (OwnG elI wr v P) := ho
   have HV : Hid (NewV w v) := hv
   have HF : Hid (Fr no w wr) := hf
   obtain ⟨vn, va, m, D, g1, g2, g3, -⟩ := HBK.out.keep hf
   obtain ⟨c0, -, -⟩ := cells3 g1
   obtain ⟨on, cn, rfl⟩ := g2.form
   rw [hn] at c0
   clear ho hv hf he g1 g2 g3
   subst hvf
   generalize hk : P.length = k at *
   by_cases hfull : k = n
   · subst hfull
     have HB2 : Hid (up A k i0 = (P, false)) := by
      show _ = _
      rw [HE.out, Nat.sub_self]
      simp [up]
     go_wp2_with fail
     go_step3
     refine h1 _ _ ⟨_, _, _, _, _, _, _, _, _, _, _, _, _, _, _, _, _, _, _, _, _, _, _, _, _, _, _, _, _, rfl, ?_, HV.out, HF.out, ?_⟩
     · rw [HB2.out]; exact HO.out
     · rw [HB2.out]
   · have hq : ((k : Int) == (n : Int)) = false := by simp; omega
     have hkn : k < n := by omega
     have LEM : Hid (∀ v' w1, OwnG elI w1 v' (P ++ [i]) → Sp (.slice o k cp) (wr.alloc (.cells #[.int .i64 (i : Int)] 3)) v' w1 → ∃ ov q cv, v' = .slice ov q cv ∧ Hid (q = k + 1) ∧ Hid (OwnG elI w1 v' (P ++ [i])) ∧ Hid (NewV w v') ∧ Hid (Fr no w w1) ∧
      ∃ b off cap, w1.cell? ⟨p, 2, none⟩ = some (.slice (some ⟨b, off, none⟩) n cap) ∧ w1.cell? ⟨b, off + i, none⟩ = some (.int .i64 ((A.getD i 0 : Nat) : Int))) := by
      intro v' w1 o1 s1
      obtain ⟨nv1, f1⟩ := HV.out.step (HF.out.alloc _ _) s1
      obtain ⟨ov, cv, hvf⟩ := o1.form
      obtain ⟨vn, va, m, D, g1, g2, g3, -⟩ := HBK.out.keep f1
      obtain ⟨-, -, d2⟩ := cells3 g1
      obtain ⟨ad, cap, rfl, hcap, hmx, -, hit⟩ := g3.sl
      have hAl := hA.1
      have hx : A[i]? = some (A.getD i 0) := by rw [List.getD_eq_getElem?_getD, List.getElem?_eq_getElem (by omega)]; rfl
      obtain ⟨b, off, rfl, hc⟩ := hit i _ hx
      rw [hAl] at d2
      exact ⟨ov, _, cv, hvf, (by show _ = _; simp [hk]), o1, nv1, f1, b, off, cap, d2, hc⟩
     by_cases hz : i = 0
     · subst hz
       have HB2 : Hid (up A n i0 = (P ++ [0], true)) := by
        show _ = _
        rw [HE.out]
        obtain ⟨f, hfu⟩ : ∃ f, n - k = f + 1 := ⟨n - k - 1, by omega⟩
        rw [hfu]
        simp [up]
       go_wp2_with (first | (at_builtin; refine wpList_apdG elI_ok _ rfl rfl _ _ rfl (.slice o k cp) P rfl (HO.out.keep ((Fr.refl no wr).alloc _ _)) _ rfl [0] (srcG_one elI_ok wr 0) (by simp; omega) ?_; intro v' w1 o1 s1; obtain ⟨ov, q, cv, rfl, HQ, O1, N1, F1, b, off, cap, d2, hc⟩ := LEM.out v' w1 o1 s1; clear o1 s1) | go_in)
       go_step3
       refine h1 _ _ ⟨_, _, _, _, _, _, _, _, _, _, _, _, _, _, _, _, _, _, _, _, _, _, _, _, _, _, _, _, _, rfl, ?_, N1.out, F1.out, ?_⟩
       · rw [HB2.out]; exact O1.out
       · rw [HB2.out]
     · have hz' : ((i : Int) == 0) = false := by simp; omega
       have HB2 : Hid (up A n i0 = ((P ++ [i]) ++ (up A (n - (P ++ [i]).length) (A.getD i 0)).1, (up A (n - (P ++ [i]).length) (A.getD i 0)).2)) := by
        show _ = _
        rw [HE.out]
        obtain ⟨f, hfu⟩ : ∃ f, n - k = f + 1 := ⟨n - k - 1, by omega⟩
        have hfl : n - (P ++ [i]).length = f := by simp; omega
        rw [hfu, hfl]
        simp [up, hz]
       have HG : Hid (A.getD i 0 < n) := hA.2 i
       have hAi : (i : Int) < (n : Int) := by omega
       generalize hgd : A.getD i 0 = j at *
       go_wp2_with (first | (at_builtin; refine wpList_apdG elI_ok _ rfl rfl _ _ rfl (.slice o k cp) P rfl (HO.out.keep ((Fr.refl no wr).alloc _ _)) _ rfl [i] (srcG_one elI_ok wr i) (by simp; omega) ?_; intro v' w1 o1 s1; obtain ⟨ov, q, cv, rfl, HQ, O1, N1, F1, b, off, cap, d2, hc⟩ := LEM.out v' w1 o1 s1; clear o1 s1) | go_in)
       go_step3
       refine hj _ _ ⟨j, _, P ++ [i], _, _, _, _, _, _, _, _, _, _, _, _, _, _, _, _, _, _, _, _, _, _, _, _, _, rfl, HG.out, by simp; omega, O1.out, N1.out, F1.out, HB2.out⟩ ?_
       have e := HQ.out
       simp [lenOf]
       omega
 · rintro a' wr ⟨u0, u1, u2, u3, u6, u7, u8, u9, u10, u11, u12, u13, u14, u15, u16, u17, u18, u19, u20, u21, u22, u23, u24, u25, u26, u27, u28, v, b, rfl, ho, hv, hf, hb⟩ K hr
   have HO : Hid (OwnG elI wr v (up A n i0).1) := ho
   have HV : Hid (NewV w v) := hv
   have HF : Hid (Fr no w wr) := hf
   have HB2 : Hid (b = (up A n i0).2) := hb
   clear ho hv hf hb
   go_wp2_with fail
   go_ret2
   exact ⟨_, by rw [← HB2.out]; rfl, HO.out, HV.out, HF.out⟩
end H
end Go.Proofs.YtalgjpmaafooeaaGreatDoor
/- Rows of slots, of classes, of linked classes; what lies in new memory. -/
namespace Go.Proofs.YtalgjpmaafooeaaGreatDoor
open Go.ChangeShapes Go.WideShapes Go.ChangeAt Go.RowKit
section
variable {α : Type} {K : El α}
def NewV (w : World) (v : Value) : Prop := ∀ k, v.ownBlock = some k → w.heap.size ≤ k
theorem NewV.nil (w : World) : NewV w (.slice none 0 0) := fun k h => by simp [Value.ownBlock] at h
theorem NewV.step {w wr w' : World} {v v' : Value} (h : NewV w v) (f : Fr no w wr) (s : Sp no v wr v' w') : NewV w v' ∧ Fr no w w' := by
 refine ⟨fun k hk => ?_, f.new s.1 (fun i hi e => ?_)⟩
 · by_cases hlt : k < wr.heap.size
   · exact h k (s.2 k hlt hk)
   · have := f.size
     omega
 · rcases e with e | e
   · exact e
   · have := h i e
     omega
theorem OwnG.keep {w w' : World} {v : Value} {l : List α} (h : OwnG K w v l) (hf : Fr no w w') : OwnG K w' v l := h.kept hf (fun _ _ f => f)
theorem SlG.src (hK : K.Ok) {w : World} {a : Addr} {n c : Nat} {l : List α} (h : SlG K w (.slice (some a) n c) l) : Src Tryz.prog K.n K.t (.slice (some a) n c) l.length (cg K l) w := by
 obtain ⟨ad, cap, e, h1, h2, h3⟩ := h
 simp only [Value.slice.injEq] at e
 obtain ⟨rfl, rfl, rfl⟩ := e
 refine Src.ofSlice _ hK.und _ _ _ _ (cg_length hK l) (fun j u hj => ?_) (cg_one hK _)
 have hp := hK.pos
 have hjl : j < l.length * K.n := by rw [← cg_length hK]; exact (List.getElem?_eq_some_iff.1 hj).1
 have hq : j / K.n < l.length := Nat.div_lt_of_lt_mul (by rw [Nat.mul_comm]; exact hjl)
 obtain ⟨x, hx⟩ : ∃ x, l[j / K.n]? = some x := ⟨_, List.getElem?_eq_getElem hq⟩
 have hm : j % K.n < (K.f x).length := by rw [hK.len]; exact Nat.mod_lt _ hp
 have hd : j / K.n * K.n + j % K.n = j := by rw [Nat.mul_comm]; exact Nat.div_add_mod j K.n
 have hg := cg_get hK l _ x hx (j % K.n) _ (List.getElem?_eq_getElem hm)
 rw [hd, hj] at hg
 obtain ⟨b, off, ha, hc⟩ := h3 _ x hx
 simp only [Option.some.injEq] at ha
 subst ha
 have := hc _ _ (List.getElem?_eq_getElem hm)
 rw [Addr.add_lit, hg]
 rw [show off + j / K.n * K.n + j % K.n = off + j by omega] at this
 exact this
theorem own_empty (w : World) : OwnG K (w.alloc (.cells #[] K.e)) (.slice (some ⟨w.heap.size, 0, none⟩) 0 0) [] := by
 refine ⟨World.ownsRow_made w #[] 0 (Nat.zero_le _) (Nat.zero_le _) (by simp), fun k cur t fz hk hc => ?_⟩
 simp only [Value.ownBlock, Option.some.injEq] at hk
 subst hk
 rw [heap_alloc_new] at hc
 simp only [Option.some.injEq, Obj.cells.injEq] at hc
 obtain ⟨rfl, _, _⟩ := hc
 intro u hu
 simp at hu
theorem own_lit (hK : K.Ok) (w : World) (l : List α) (cs : Array Value) (hc : cs = (cg K l).toArray) (h : l.length ≤ maxLen) : OwnG K (w.alloc (.cells cs K.e)) (.slice (some ⟨w.heap.size, 0, none⟩) l.length l.length) l := by
 subst hc
 refine ⟨⟨cg_length hK l, .inr ⟨w.heap.size, l.length, (cg K l).toArray, rfl, Nat.zero_le _, heap_alloc_new w _, Nat.le_refl _, h, by simp [cg_length hK], ?_⟩⟩, fun k cur t fz hk hc => ?_⟩
 · rw [← cg_length hK]
   exact List.take_of_length_le (by simp)
 · simp only [Value.ownBlock, Option.some.injEq] at hk
   subst hk
   rw [heap_alloc_new] at hc
   simp only [Option.some.injEq, Obj.cells.injEq] at hc
   obtain ⟨rfl, _, _⟩ := hc
   intro u hu
   exact cg_nob hK l u (by simpa using hu)
theorem SlG.nil (K : El α) (w : World) : SlG K w (.slice none 0 0) [] := ⟨none, 0, rfl, Nat.zero_le _, Nat.zero_le _, fun i x hx => by simp at hx⟩
theorem SlG.none_nil {w : World} {n c : Nat} {l : List α} (h : SlG K w (.slice none n c) l) : l = [] := by
 obtain ⟨ad, cap, e, h1, h2, h3⟩ := h
 simp only [Value.slice.injEq] at e
 obtain ⟨rfl, rfl, rfl⟩ := e
 cases l with
 | nil => rfl
 | cons x l =>
  obtain ⟨b, off, ha, _⟩ := h3 0 x rfl
  simp at ha
theorem SlG.form {w : World} {v : Value} {l : List α} (h : SlG K w v l) : ∃ o c, v = .slice o l.length c := by
 obtain ⟨ad, cap, e, _⟩ := h
 exact ⟨ad, cap, e⟩
end
structure Slt where
 cls : ByteArray
 f : Fd
 at' : Int
structure Lk where
 k : Ks
 s : Sv
 wd : Int
 fm : Nat
 mm : Nat
def slC (x : Slt) : List Value := [.string x.cls, .string x.f.name, .int .i64 x.f.ty.k, .string x.f.ty.c, .bool x.f.vol, .int .i64 x.at']
def ksC (s : Ks) : List Value := [.string s.name, .string s.super, .slice s.p.a s.p.n s.p.c, .slice s.f.a s.f.n s.f.c, .slice s.m.a s.m.n s.m.c]
def lkC (x : Lk) : List Value := [.string x.k.name, .string x.k.super, .slice x.k.p.a x.k.p.n x.k.p.c, .slice x.k.f.a x.k.f.n x.k.f.c, .slice x.k.m.a x.k.m.n x.k.m.c, .slice x.s.a x.s.n x.s.c, .int .i64 x.wd, .map (some x.fm), .map (some x.mm)]
def elSt : El Slt := { t := 125, e := 188, n := 6, z := .agg #[.string e0, .string e0, .int .i64 0, .string e0, .bool false, .int .i64 0], b := 72, f := slC }
def elKs : El Ks := { t := 52, e := 51, n := 5, z := .agg #[.string e0, .string e0, .slice none 0 0, .slice none 0 0, .slice none 0 0], b := 104, f := ksC }
def elLk : El Lk := { t := 118, e := 128, n := 9, z := .agg #[.string e0, .string e0, .slice none 0 0, .slice none 0 0, .slice none 0 0, .slice none 0 0, .int .i64 0, .map none, .map none], b := 152, f := lkC }
theorem okIn : elIn.Ok where
 und := Tryz.underlying24
 info := by kernel_rfl
 len := fun _ => rfl
 one := fun x u hu => by simp [elIn] at hu; rcases hu with rfl | rfl <;> rfl
 nb := fun x u hu => by simp [elIn] at hu; rcases hu with rfl | rfl <;> exact nob_int _
 zlen := by kernel_rfl
 znb := fun u hu => by
  have : u ∈ [Value.int .i64 0, .int .i64 0] := by
   have e : elIn.z.cells = #[Value.int .i64 0, .int .i64 0] := by kernel_rfl
   rw [e] at hu
   exact hu
  simp at this; subst this; exact nob_int _
 bs := by decide
 pos := by decide
theorem SlG.i {w : World} {v : Value} {l : List (Int × Int)} (h : SlG elIn w v l) : SlI w v l := by
 obtain ⟨ad, cap, rfl, h1, h2, h3⟩ := h
 refine ⟨ad, cap, rfl, h1, h2, fun i x hx => ?_⟩
 obtain ⟨b, off, rfl, hc⟩ := h3 i x hx
 exact ⟨b, off, rfl, hc 0 _ rfl, hc 1 _ rfl⟩
theorem nob_map (b : Option Nat) : nob (.map b) := fun c h => by cases h
theorem okSt : elSt.Ok where
 und := Tryz.underlying125
 info := by kernel_rfl
 len := fun _ => rfl
 one := fun x u hu => by simp [elSt, slC] at hu; rcases hu with rfl | rfl | rfl | rfl | rfl | rfl <;> rfl
 nb := fun x u hu => by simp [elSt, slC] at hu; rcases hu with rfl | rfl | rfl | rfl | rfl | rfl <;> first | exact nob_str _ | exact nob_int _ | exact nob_bool _
 zlen := by kernel_rfl
 znb := fun u hu => by
  have : u ∈ [Value.string e0, .string e0, .int .i64 0, .string e0, .bool false, .int .i64 0] := by
   have e : elSt.z.cells = #[Value.string e0, .string e0, .int .i64 0, .string e0, .bool false, .int .i64 0] := by kernel_rfl
   rw [e] at hu
   exact hu
  simp at this; rcases this with rfl | rfl | rfl | rfl | rfl <;> first | exact nob_str _ | exact nob_int _ | exact nob_bool _
 bs := by decide
 pos := by decide
theorem okKs : elKs.Ok where
 und := Tryz.underlying52
 info := by kernel_rfl
 len := fun _ => rfl
 one := fun x u hu => by simp [elKs, ksC] at hu; rcases hu with rfl | rfl | rfl | rfl | rfl <;> rfl
 nb := fun x u hu => by simp [elKs, ksC] at hu; rcases hu with rfl | rfl | rfl | rfl | rfl <;> first | exact nob_str _ | exact nob_sl _ _ _
 zlen := by kernel_rfl
 znb := fun u hu => by
  have : u ∈ [Value.string e0, .string e0, .slice none 0 0, .slice none 0 0, .slice none 0 0] := by
   have e : elKs.z.cells = #[Value.string e0, .string e0, .slice none 0 0, .slice none 0 0, .slice none 0 0] := by kernel_rfl
   rw [e] at hu
   exact hu
  simp at this; rcases this with rfl | rfl <;> first | exact nob_str _ | exact nob_sl _ _ _
 bs := by decide
 pos := by decide
theorem okLk : elLk.Ok where
 und := Tryz.underlying118
 info := by kernel_rfl
 len := fun _ => rfl
 one := fun x u hu => by simp [elLk, lkC] at hu; rcases hu with rfl | rfl | rfl | rfl | rfl | rfl | rfl | rfl | rfl <;> rfl
 nb := fun x u hu => by simp [elLk, lkC] at hu; rcases hu with rfl | rfl | rfl | rfl | rfl | rfl | rfl | rfl | rfl <;> first | exact nob_str _ | exact nob_sl _ _ _ | exact nob_int _ | exact nob_map _
 zlen := by kernel_rfl
 znb := fun u hu => by
  have : u ∈ [Value.string e0, .string e0, .slice none 0 0, .slice none 0 0, .slice none 0 0, .slice none 0 0, .int .i64 0, .map none, .map none] := by
   have e : elLk.z.cells = #[Value.string e0, .string e0, .slice none 0 0, .slice none 0 0, .slice none 0 0, .slice none 0 0, .int .i64 0, .map none, .map none] := by kernel_rfl
   rw [e] at hu
   exact hu
  simp at this; rcases this with rfl | rfl | rfl | rfl <;> first | exact nob_str _ | exact nob_sl _ _ _ | exact nob_int _ | exact nob_map _
 bs := by decide
 pos := by decide
end Go.Proofs.YtalgjpmaafooeaaGreatDoor
