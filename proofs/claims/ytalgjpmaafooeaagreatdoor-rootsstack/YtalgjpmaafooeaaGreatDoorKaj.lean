/- Whether all classes are there that a class's types name: the program's call. -/
import Derived.Test.YtalgjpmaafooeaaGreatDoorKai
import Derived.Test.YtalgjpmaafooeaaGreatDoorKae
import Derived.Test.YtalgjpmaafooeaaGreatDoorKaf
import Derived.BigRegion
import Derived.Test.YtalgjpmaafooeaaGreatDoorKah
namespace Go.Proofs.YtalgjpmaafooeaaGreatDoor
open Go.ChangeShapes Go.WideShapes Go.ChangeAt Go.RowKit
open H (ky Owns MapOf ix up nameAt anc Fine obj fault)
theorem hasStrange_any (w : World) (p : Nat) (Cs : List Cl) (A : List Nat) (h : Prg w p Cs A) (v : Value) (l : List Ty) (hv : SlG elTy w v l) (hf : ∀ t ∈ l, fitS t.c) :
 Calls Tryz.prog 109 #[v, .func (.func 108) #[.pointer (some ⟨p, 0, none⟩)] #[]] w fun e w' => e = .returned (.bool (l.any (strange (namesOf Cs)))) ∧ Fr no w w' := by
 have := hasTy_any w v l hv p (fun i => match l[i]? with | some t => strange (namesOf Cs) t | none => false) (fun wr k t f ht => by
  have := isStrange_any wr p Cs A (h.keep f) t (hf t (List.mem_of_getElem? ht))
  simp only [ht]
  exact this)
 rw [anyN_list (strange (namesOf Cs)) l _ (fun i t ht => by simp only [ht])] at this
 exact this
set_option maxRecDepth 100000 in
set_option maxHeartbeats 2000000 in
theorem hasClasses_any (w : World) (p : Nat) (Cs : List Cl) (A : List Nat) (h : Prg w p Cs A) (s : Ks) (c : Cl) (hc : ClAt w s c) (hfit : FitC c) :
 Calls Tryz.prog 87 #[.pointer (some ⟨p, 0, none⟩), .agg #[.string s.name, .string s.super, .slice s.p.a s.p.n s.p.c, .slice s.f.a s.f.n s.f.c, .slice s.m.a s.m.n s.m.c]] w fun e w' => e = .returned (.bool (!noCls (namesOf Cs) c)) ∧ Fr no w w' := by
 obtain ⟨n1, u1, p1, ⟨fa, fn, fc⟩, ⟨ma, mn, mc⟩⟩ := s
 obtain ⟨ls, hl, ha⟩ := hc.m
 have hfn : fn = c.fields.length := by
  obtain ⟨q, c, e⟩ := hc.f.form
  simp only [Value.slice.injEq] at e
  exact e.2.1
 have hmn : mn = c.methods.length := by
  obtain ⟨q, c, e⟩ := hl.form
  simp only [Value.slice.injEq] at e
  rw [← ha.1]
  exact e.2.1
 subst hfn hmn
 simp only [] at hl ⊢
 have G0 : Fr no w (w.alloc (.cells #[.string n1, .string u1, .slice p1.a p1.n p1.c, .slice fa c.fields.length fc, .slice ma c.methods.length mc] 51)) := (Fr.refl no w).alloc _ _
 have A0 : (w.alloc (.cells #[.string n1, .string u1, .slice p1.a p1.n p1.c, .slice fa c.fields.length fc, .slice ma c.methods.length mc] 51)).heap[w.heap.size]? = some (.cells #[.string n1, .string u1, .slice p1.a p1.n p1.c, .slice fa c.fields.length fc, .slice ma c.methods.length mc] 51 (0, 0)) := heap_alloc_new w _
 have HF1 : Hid (SlG elFd (w.alloc (.cells #[.string n1, .string u1, .slice p1.a p1.n p1.c, .slice fa c.fields.length fc, .slice ma c.methods.length mc] 51)) (.slice fa c.fields.length fc) c.fields) := hc.f.kept G0
 have HF2 : Hid (SlG elMs (w.alloc (.cells #[.string n1, .string u1, .slice p1.a p1.n p1.c, .slice fa c.fields.length fc, .slice ma c.methods.length mc] 51)) (.slice ma c.methods.length mc) ls ∧ AtAll (w.alloc (.cells #[.string n1, .string u1, .slice p1.a p1.n p1.c, .slice fa c.fields.length fc, .slice ma c.methods.length mc] 51)) ls c.methods) := ⟨hl.kept G0, ha.kept G0⟩
 have hle : c.fields.length ≤ fc ∧ fc ≤ 9223372036854775807 ∧ c.methods.length ≤ mc ∧ mc ≤ 9223372036854775807 := by
  obtain ⟨ad, cp, hv, hcap, hmx, -⟩ := HF1.out
  obtain ⟨ad', cp', hv', hcap', hmx', -⟩ := HF2.out.1
  simp only [Value.slice.injEq] at hv hv'
  unfold maxLen at hmx hmx'
  omega
 have HPG : Hid (∀ w', Fr no (w.alloc (.cells #[.string n1, .string u1, .slice p1.a p1.n p1.c, .slice fa c.fields.length fc, .slice ma c.methods.length mc] 51)) w' → Prg w' p Cs A) := fun w' hf => (h.keep G0).keep hf
 have KB : Hid (∀ w', Fr no (w.alloc (.cells #[.string n1, .string u1, .slice p1.a p1.n p1.c, .slice fa c.fields.length fc, .slice ma c.methods.length mc] 51)) w' → w'.cell? ⟨w.heap.size, 4, none⟩ = some (.slice ma c.methods.length mc)) := fun w' hf => (box5 (hf.heap A0 (fun f => f))).2.2.2.2
 obtain ⟨-, -, -, a3, -⟩ := box5 A0
 have HG : Hid (_) := G0
 have HFit : Hid (FitC c) := hfit
 clear h hc G0 A0 hl ha hfit
 generalize hnl : c.fields.length = nf at *
 generalize hml : c.methods.length = nm at *
 generalize hW : w.alloc (.cells #[.string n1, .string u1, .slice p1.a p1.n p1.c, .slice fa nf fc, .slice ma nm mc] 51) = W at *
 go_enter Tryz.func87, Tryz.ntmps87
 go_wp2_with fail
 go_loopw [12] (fun i wr => ∃ (k : Nat), i = .int .i64 (k : Int) ∧ k ≤ nf ∧ Fr no W wr ∧ ((c.fields.take k).any fun f => strange (namesOf Cs) f.ty) = false) (fun i _ => nf - (intOf i).toNat)
 case atStart => exact ⟨0, rfl, by omega, Fr.refl _ _, by simp⟩
 case round =>
  obtain ⟨k, rfl, hk, hw, hall⟩ := hrel
  have HA : Hid (((c.fields.take k).any fun f => strange (namesOf Cs) f.ty) = false) := hall
  clear hall
  by_cases hlt : k < nf
  · have hki : (k : Int) < (nf : Int) := by omega
    obtain ⟨x, hx⟩ : ∃ x, c.fields[k]? = some x := ⟨_, List.getElem?_eq_getElem (by omega)⟩
    obtain ⟨ad, cp, hv, -, -, hit⟩ := HF1.out.kept hw
    simp only [Value.slice.injEq] at hv
    obtain ⟨rfl, -, -⟩ := hv
    obtain ⟨b, off, rfl, hc⟩ := hit k x hx
    have c0 := hc 0 _ rfl
    have c1 := hc 1 _ rfl
    have c2 := hc 2 _ rfl
    have c3 := hc 3 _ rfl
    simp only [elFd, Nat.add_zero] at c0 c1 c2 c3
    have G1 : Fr no wr (wr.alloc (.cells #[.string x.name, .int .i64 x.ty.k, .string x.ty.c, .bool x.vol] 109)) := (Fr.refl no wr).alloc _ _
    have E1 : (wr.alloc (.cells #[.string x.name, .int .i64 x.ty.k, .string x.ty.c, .bool x.vol] 109)).heap[wr.heap.size]? = some (.cells #[.string x.name, .int .i64 x.ty.k, .string x.ty.c, .bool x.vol] 109 (0, 0)) := heap_alloc_new wr _
    have g1 := hw.new G1 (fun _ _ f => f)
    have e1 := cell_at (o := 1) E1
    have e2 := cell_at (o := 2) E1
    simp only [List.getElem?_toArray, List.getElem?_cons_zero, List.getElem?_cons_succ] at e1 e2
    have AS := isStrange_any _ p Cs A (HPG.out _ g1) x.ty (HFit.out.fields x (List.mem_of_getElem? hx)).2
    have HX : Hid (c.fields[k]? = some x ∧ Fr no W (wr.alloc (.cells #[.string x.name, .int .i64 x.ty.k, .string x.ty.c, .bool x.vol] 109))) := ⟨hx, g1⟩
    clear hit hc hx G1 E1 g1 hw
    cases hb : strange (namesOf Cs) x.ty with
    | true =>
     rw [hb] at AS
     have HT : Hid ((!noCls (namesOf Cs) c) = false) := by
      have : c.fields.any (fun f => strange (namesOf Cs) f.ty) = true := List.any_eq_true.2 ⟨x, List.mem_of_getElem? HX.out.1, hb⟩
      show _ = _
      unfold noCls
      rw [this]
      rfl
     clear hb
     go_wp2_with fail
     refine AS.mono ?_
     rintro e w2 ⟨rfl, f2⟩
     go_wp2_with fail
     go_ret
     rw [HT.out]
     exact ⟨rfl, HG.out.new (HX.out.2.new f2 (fun _ _ f => f)) (fun _ _ f => f)⟩
    | false =>
     rw [hb] at AS
     have HT : Hid (((c.fields.take (k + 1)).any fun f => strange (namesOf Cs) f.ty) = false) := by
      show _ = _
      rw [take_next _ k x HX.out.1, List.any_append, HA.out]
      simp only [List.any_cons, List.any_nil, Bool.or_false, Bool.false_or]
      exact hb
     clear hb
     go_wp2_with fail
     refine AS.mono ?_
     rintro e w2 ⟨rfl, f2⟩
     go_wp2_with fail
     go_roundw
     case rel => exact ⟨k + 1, by go_num, by omega, HX.out.2.new f2 (fun _ _ f => f), HT.out⟩
     case measure => simp [intOf]; omega
  · have hkn : k = nf := by omega
    subst hkn
    have HFA : Hid ((c.fields.any fun f => strange (namesOf Cs) f.ty) = false) := by
     have := HA.out
     rw [← hnl, List.take_length] at this
     exact this
    have a4 := KB.out wr hw
    have HW1 : Hid (Fr no W wr) := hw
    clear hw
    go_wp2_with fail
    go_loopw [24] (fun i wr2 => ∃ (j : Nat), i = .int .i64 (j : Int) ∧ j ≤ nm ∧ Fr no W wr2 ∧ ((c.methods.take j).any fun m => strange (namesOf Cs) m.ret || m.params.any (strange (namesOf Cs))) = false) (fun i _ => nm - (intOf i).toNat)
    case atStart => exact ⟨0, rfl, by omega, HW1.out, by simp⟩
    case round =>
     obtain ⟨j, rfl, hj, hw, hall⟩ := hrel
     have HA2 : Hid (((c.methods.take j).any fun m => strange (namesOf Cs) m.ret || m.params.any (strange (namesOf Cs))) = false) := hall
     clear hall
     by_cases hlt2 : j < nm
     · have hji : (j : Int) < (nm : Int) := by omega
       obtain ⟨m, hm⟩ : ∃ m, c.methods[j]? = some m := ⟨_, List.getElem?_eq_getElem (by omega)⟩
       obtain ⟨x, hx⟩ : ∃ x, ls[j]? = some x := ⟨_, List.getElem?_eq_getElem (by rw [HF2.out.2.1]; omega)⟩
       obtain ⟨ad, cp, hv, -, -, hit⟩ := HF2.out.1.kept hw
       simp only [Value.slice.injEq] at hv
       obtain ⟨rfl, -, -⟩ := hv
       obtain ⟨b, off, rfl, hc⟩ := hit j x hx
       have c0 := hc 0 _ rfl
       have c1 := hc 1 _ rfl
       have c2 := hc 2 _ rfl
       have c3 := hc 3 _ rfl
       have c4 := hc 4 _ rfl
       have c5 := hc 5 _ rfl
       have c6 := hc 6 _ rfl
       have c7 := hc 7 _ rfl
       simp only [elMs, Nat.add_zero] at c0 c1 c2 c3 c4 c5 c6 c7
       have G1 : Fr no wr (wr.alloc (.cells #[.string x.name, .slice x.p.a x.p.n x.p.c, .int .i64 x.ret.k, .string x.ret.c, .int .i64 x.lo, .int .i64 x.st, .slice x.c.a x.c.n x.c.c, .slice x.h.a x.h.n x.h.c] 47)) := (Fr.refl no wr).alloc _ _
       have E1 : (wr.alloc (.cells #[.string x.name, .slice x.p.a x.p.n x.p.c, .int .i64 x.ret.k, .string x.ret.c, .int .i64 x.lo, .int .i64 x.st, .slice x.c.a x.c.n x.c.c, .slice x.h.a x.h.n x.h.c] 47)).heap[wr.heap.size]? = some (.cells #[.string x.name, .slice x.p.a x.p.n x.p.c, .int .i64 x.ret.k, .string x.ret.c, .int .i64 x.lo, .int .i64 x.st, .slice x.c.a x.c.n x.c.c, .slice x.h.a x.h.n x.h.c] 47 (0, 0)) := heap_alloc_new wr _
       have g1 := hw.new G1 (fun _ _ f => f)
       obtain ⟨e0, e1, e2, e3, e4, e5, e6, e7⟩ := box8 E1
       have mx := (HF2.out.2.2 j x m hx hm).kept g1
       have fm := HFit.out.methods m (List.mem_of_getElem? hm)
       have hret : x.ret = m.ret := mx.ret
       have AS := isStrange_any _ p Cs A (HPG.out _ g1) x.ret (by rw [hret]; exact fm.ret)
       have hsr : strange (namesOf Cs) x.ret = strange (namesOf Cs) m.ret := by rw [hret]
       rw [hsr] at AS
       have BS : Hid (∀ w', Fr no (wr.alloc (.cells #[.string x.name, .slice x.p.a x.p.n x.p.c, .int .i64 x.ret.k, .string x.ret.c, .int .i64 x.lo, .int .i64 x.st, .slice x.c.a x.c.n x.c.c, .slice x.h.a x.h.n x.h.c] 47)) w' → Calls Tryz.prog 109 #[.slice x.p.a x.p.n x.p.c, .func (.func 108) #[.pointer (some ⟨p, 0, none⟩)] #[]] w' fun e w2 => e = .returned (.bool (m.params.any (strange (namesOf Cs)))) ∧ Fr no w' w2) := fun w' hf => hasStrange_any w' p Cs A (HPG.out _ (g1.new hf (fun _ _ f => f))) _ m.params (mx.p.kept hf) fm.params
       have HX : Hid (c.methods[j]? = some m ∧ Fr no W (wr.alloc (.cells #[.string x.name, .slice x.p.a x.p.n x.p.c, .int .i64 x.ret.k, .string x.ret.c, .int .i64 x.lo, .int .i64 x.st, .slice x.c.a x.c.n x.c.c, .slice x.h.a x.h.n x.h.c] 47)) ∧ (wr.alloc (.cells #[.string x.name, .slice x.p.a x.p.n x.p.c, .int .i64 x.ret.k, .string x.ret.c, .int .i64 x.lo, .int .i64 x.st, .slice x.c.a x.c.n x.c.c, .slice x.h.a x.h.n x.h.c] 47)).heap[wr.heap.size]? = some (.cells #[.string x.name, .slice x.p.a x.p.n x.p.c, .int .i64 x.ret.k, .string x.ret.c, .int .i64 x.lo, .int .i64 x.st, .slice x.c.a x.c.n x.c.c, .slice x.h.a x.h.n x.h.c] 47 (0, 0))) := ⟨hm, g1, E1⟩
       clear hit hc hx G1 E1 g1 hw mx hm hret hsr
       cases hb : strange (namesOf Cs) m.ret with
       | true =>
        rw [hb] at AS
        have HT : Hid ((!noCls (namesOf Cs) c) = false) := by
         have : (c.methods.any fun m => strange (namesOf Cs) m.ret || m.params.any (strange (namesOf Cs))) = true := List.any_eq_true.2 ⟨m, List.mem_of_getElem? HX.out.1, by rw [hb]; rfl⟩
         show _ = _
         unfold noCls
         rw [this]
         simp
        clear hb
        go_wp2_with fail
        refine AS.mono ?_
        rintro e w2 ⟨rfl, f2⟩
        go_wp2_with fail
        go_ret
        rw [HT.out]
        exact ⟨rfl, HG.out.new (HX.out.2.1.new f2 (fun _ _ f => f)) (fun _ _ f => f)⟩
       | false =>
        rw [hb] at AS
        cases hb2 : m.params.any (strange (namesOf Cs)) with
        | true =>
         rw [hb2] at BS
         have HT : Hid ((!noCls (namesOf Cs) c) = false) := by
          have : (c.methods.any fun m => strange (namesOf Cs) m.ret || m.params.any (strange (namesOf Cs))) = true := List.any_eq_true.2 ⟨m, List.mem_of_getElem? HX.out.1, by rw [hb2]; simp⟩
          show _ = _
          unfold noCls
          rw [this]
          simp
         clear hb hb2
         go_wp2_with fail
         refine AS.mono ?_
         rintro e w2 ⟨rfl, f2⟩
         have e1' := f2.cell e1 (fun f => f)
         go_wp2_with fail
         refine (BS.out w2 f2).mono ?_
         rintro e w3 ⟨rfl, f3⟩
         go_wp2_with fail
         go_ret
         rw [HT.out]
         exact ⟨rfl, HG.out.new ((HX.out.2.1.new f2 (fun _ _ f => f)).new f3 (fun _ _ f => f)) (fun _ _ f => f)⟩
        | false =>
         rw [hb2] at BS
         have HT : Hid (((c.methods.take (j + 1)).any fun m => strange (namesOf Cs) m.ret || m.params.any (strange (namesOf Cs))) = false) := by
          show _ = _
          rw [take_next _ j m HX.out.1, List.any_append, HA2.out]
          simp only [List.any_cons, List.any_nil, Bool.or_false, Bool.false_or]
          rw [hb, hb2]
          rfl
         clear hb hb2
         go_wp2_with fail
         refine AS.mono ?_
         rintro e w2 ⟨rfl, f2⟩
         have e1' := f2.cell e1 (fun f => f)
         go_wp2_with fail
         refine (BS.out w2 f2).mono ?_
         rintro e w3 ⟨rfl, f3⟩
         go_wp2_with fail
         go_roundw
         case rel => exact ⟨j + 1, by go_num, by omega, (HX.out.2.1.new f2 (fun _ _ f => f)).new f3 (fun _ _ f => f), HT.out⟩
         case measure => simp [intOf]; omega
     · have hjn : j = nm := by omega
       subst hjn
       have HT : Hid ((!noCls (namesOf Cs) c) = true) := by
        have := HA2.out
        rw [← hml, List.take_length] at this
        show _ = _
        unfold noCls
        rw [HFA.out, this]
        rfl
       go_wp2_with fail
       go_ret
       rw [HT.out]
       exact ⟨rfl, HG.out.new hw (fun _ _ f => f)⟩
end Go.Proofs.YtalgjpmaafooeaaGreatDoor
/- Whether two methods have the same types. -/
namespace Go.Proofs.YtalgjpmaafooeaaGreatDoor
open Go.ChangeShapes Go.WideShapes Go.ChangeAt Go.RowKit
theorem ty_eq (a b : Ty) (w : World) : (binOp .eql 44 (.agg #[.int .i64 a.k, .string a.c]) (.agg #[.int .i64 b.k, .string b.c])).run Tryz.prog w = .ok (.bool (decide (a = b))) w := by
 obtain ⟨ka, ca⟩ := a
 obtain ⟨kb, cb⟩ := b
 by_cases h1 : ka = kb
 · subst h1
   by_cases h2 : ca = cb
   · subst h2
     simp [go_sem]
   · have := H.streq ca cb
     rw [decide_eq_false h2] at this
     simp [go_sem, h2, this]
 · simp [go_sem, h1]
theorem ty_ne (a b : Ty) (w : World) : (binOp .neq 44 (.agg #[.int .i64 a.k, .string a.c]) (.agg #[.int .i64 b.k, .string b.c])).run Tryz.prog w = .ok (.bool (!decide (a = b))) w := by
 obtain ⟨ka, ca⟩ := a
 obtain ⟨kb, cb⟩ := b
 by_cases h1 : ka = kb
 · subst h1
   by_cases h2 : ca = cb
   · subst h2
     simp [go_sem]
   · have := H.streq ca cb
     rw [decide_eq_false h2] at this
     simp [go_sem, h2, this]
 · simp [go_sem, h1]
set_option maxRecDepth 100000 in
set_option maxHeartbeats 1000000 in
theorem equal_any (w : World) (v1 v2 : Value) (l1 l2 : List Ty) (h1 : SlG elTy w v1 l1) (h2 : SlG elTy w v2 l2) :
 Calls Tryz.prog 126 #[v1, v2] w fun e w' => e = .returned (.bool (decide (l1 = l2))) ∧ Fr no w w' := by
 obtain ⟨a1, c1, rfl, hcap1, m1, i1⟩ := h1
 obtain ⟨a2, c2, rfl, hcap2, m2, i2⟩ := h2
 unfold maxLen at m1 m2
 have HI1 : Hid (∀ (i : Nat) (x : Ty), l1[i]? = some x → ∃ b off, a1 = some ⟨b, off, none⟩ ∧ ∀ (j : Nat) (u : Value), (elTy.f x)[j]? = some u → w.cell? ⟨b, off + i * 2 + j, none⟩ = some u) := i1
 have HI2 : Hid (∀ (i : Nat) (x : Ty), l2[i]? = some x → ∃ b off, a2 = some ⟨b, off, none⟩ ∧ ∀ (j : Nat) (u : Value), (elTy.f x)[j]? = some u → w.cell? ⟨b, off + i * 2 + j, none⟩ = some u) := i2
 clear i1 i2
 by_cases hl : l1.length = l2.length
 · rw [← hl]
   have HL : Hid (l1.length = l2.length) := hl
   clear hl
   go_enter Tryz.func126, Tryz.ntmps126
   go_wp2_with fail
   go_loopw [13] (fun i wr => ∃ (k : Nat), i = .int .i64 (k : Int) ∧ k ≤ l1.length ∧ Fr no w wr ∧ l1.take k = l2.take k) (fun i _ => l1.length - (intOf i).toNat)
   case atStart => exact ⟨0, rfl, by omega, Fr.refl _ _, by simp⟩
   case round =>
    obtain ⟨k, rfl, hk, hw, hall⟩ := hrel
    have HA : Hid (l1.take k = l2.take k) := hall
    clear hall
    by_cases hlt : k < l1.length
    · obtain ⟨x, hx⟩ : ∃ x, l1[k]? = some x := ⟨_, List.getElem?_eq_getElem hlt⟩
      obtain ⟨y, hy⟩ : ∃ y, l2[k]? = some y := ⟨_, List.getElem?_eq_getElem (by have := HL.out; omega)⟩
      obtain ⟨b, off, rfl, hc⟩ := HI1.out k x hx
      obtain ⟨b', off', rfl, hc'⟩ := HI2.out k y hy
      have hlt' : (k : Int) < (l1.length : Int) := by omega
      have e0 : wr.cell? ⟨b, off + k * 2, none⟩ = some (.int .i64 x.k) := hw.cell (hc 0 _ rfl) (fun f => f)
      have e1 : wr.cell? ⟨b, off + k * 2 + 1, none⟩ = some (.string x.c) := hw.cell (hc 1 _ rfl) (fun f => f)
      have f0 : wr.cell? ⟨b', off' + k * 2, none⟩ = some (.int .i64 y.k) := hw.cell (hc' 0 _ rfl) (fun f => f)
      have f1 : wr.cell? ⟨b', off' + k * 2 + 1, none⟩ = some (.string y.c) := hw.cell (hc' 1 _ rfl) (fun f => f)
      have hne := ty_ne x y
      have HW : Hid (Fr no w wr) := hw
      have HX : Hid (l1[k]? = some x ∧ l2[k]? = some y) := ⟨hx, hy⟩
      clear hc hc' hw hx hy
      by_cases hn : x = y
      · rw [decide_eq_true hn] at hne
        have HT : Hid (l1.take (k + 1) = l2.take (k + 1)) := by show _ = _; rw [take_next l1 k x HX.out.1, take_next l2 k y HX.out.2, HA.out, hn]
        clear hn
        go_wp2_with fail
        go_region
        go_wp2_with fail
        go_roundw
        case rel => exact ⟨k + 1, by go_num, by omega, HW.out.drew, HT.out⟩
        case measure => simp [intOf]; omega
      · rw [decide_eq_false hn] at hne
        have HT : Hid (decide (l1 = l2) = false) := by
         show _ = _
         refine decide_eq_false (fun e => hn ?_)
         have h1 := HX.out.1
         rw [e, HX.out.2] at h1
         simpa using h1.symm
        clear hn
        go_wp2_with fail
        go_region
        go_wp2_with fail
        go_ret
        rw [HT.out]
        exact ⟨rfl, HW.out.drew⟩
    · have hkl : k = l1.length := by omega
      subst hkl
      have HT : Hid (decide (l1 = l2) = true) := by
       show _ = _
       refine decide_eq_true ?_
       have := HA.out
       rw [List.take_length, HL.out, List.take_length] at this
       exact this
      go_wp2_with fail
      go_ret
      rw [HT.out]
      exact ⟨rfl, hw⟩
 · have HT : Hid (decide (l1 = l2) = false) := decide_eq_false (fun e => hl (by rw [e]))
   have hne : ((l1.length : Int) == (l2.length : Int)) = false := by simp; omega
   go_enter Tryz.func126, Tryz.ntmps126
   go_wp2_with fail
   go_ret
   rw [HT.out]
   exact ⟨rfl, Fr.refl _ _⟩
end Go.Proofs.YtalgjpmaafooeaaGreatDoor
/- What two classes have of one name. -/
namespace Go.Proofs.YtalgjpmaafooeaaGreatDoor
open Go.ChangeShapes Go.WideShapes Go.ChangeAt Go.RowKit
set_option maxRecDepth 100000 in
set_option maxHeartbeats 1000000 in
theorem sameTypes_any (w : World) (s1 s2 : Ms) (m1 m2 : Mt) (h1 : MtAt w s1 m1) (h2 : MtAt w s2 m2) :
 Calls Tryz.prog 112 #[.agg #[.string s1.name, .slice s1.p.a s1.p.n s1.p.c, .int .i64 s1.ret.k, .string s1.ret.c, .int .i64 s1.lo, .int .i64 s1.st, .slice s1.c.a s1.c.n s1.c.c, .slice s1.h.a s1.h.n s1.h.c], .agg #[.string s2.name, .slice s2.p.a s2.p.n s2.p.c, .int .i64 s2.ret.k, .string s2.ret.c, .int .i64 s2.lo, .int .i64 s2.st, .slice s2.c.a s2.c.n s2.c.c, .slice s2.h.a s2.h.n s2.h.c]] w fun e w' => e = .returned (.bool (sameT m1 m2)) ∧ Fr no w w' := by
 have G0 : Fr no w ((w.alloc (.cells #[.string s1.name, .slice s1.p.a s1.p.n s1.p.c, .int .i64 s1.ret.k, .string s1.ret.c, .int .i64 s1.lo, .int .i64 s1.st, .slice s1.c.a s1.c.n s1.c.c, .slice s1.h.a s1.h.n s1.h.c] 47)).alloc (.cells #[.string s2.name, .slice s2.p.a s2.p.n s2.p.c, .int .i64 s2.ret.k, .string s2.ret.c, .int .i64 s2.lo, .int .i64 s2.st, .slice s2.c.a s2.c.n s2.c.c, .slice s2.h.a s2.h.n s2.h.c] 47)) := ((Fr.refl no w).alloc _ _).alloc _ _
 have A0 : ((w.alloc (.cells #[.string s1.name, .slice s1.p.a s1.p.n s1.p.c, .int .i64 s1.ret.k, .string s1.ret.c, .int .i64 s1.lo, .int .i64 s1.st, .slice s1.c.a s1.c.n s1.c.c, .slice s1.h.a s1.h.n s1.h.c] 47)).alloc (.cells #[.string s2.name, .slice s2.p.a s2.p.n s2.p.c, .int .i64 s2.ret.k, .string s2.ret.c, .int .i64 s2.lo, .int .i64 s2.st, .slice s2.c.a s2.c.n s2.c.c, .slice s2.h.a s2.h.n s2.h.c] 47)).heap[w.heap.size]? = some (.cells #[.string s1.name, .slice s1.p.a s1.p.n s1.p.c, .int .i64 s1.ret.k, .string s1.ret.c, .int .i64 s1.lo, .int .i64 s1.st, .slice s1.c.a s1.c.n s1.c.c, .slice s1.h.a s1.h.n s1.h.c] 47 (0, 0)) := (Below.heap_alloc _ _ _ (by simp)).trans (heap_alloc_new w _)
 have B0 : ((w.alloc (.cells #[.string s1.name, .slice s1.p.a s1.p.n s1.p.c, .int .i64 s1.ret.k, .string s1.ret.c, .int .i64 s1.lo, .int .i64 s1.st, .slice s1.c.a s1.c.n s1.c.c, .slice s1.h.a s1.h.n s1.h.c] 47)).alloc (.cells #[.string s2.name, .slice s2.p.a s2.p.n s2.p.c, .int .i64 s2.ret.k, .string s2.ret.c, .int .i64 s2.lo, .int .i64 s2.st, .slice s2.c.a s2.c.n s2.c.c, .slice s2.h.a s2.h.n s2.h.c] 47)).heap[w.heap.size + 1]? = some (.cells #[.string s2.name, .slice s2.p.a s2.p.n s2.p.c, .int .i64 s2.ret.k, .string s2.ret.c, .int .i64 s2.lo, .int .i64 s2.st, .slice s2.c.a s2.c.n s2.c.c, .slice s2.h.a s2.h.n s2.h.c] 47 (0, 0)) := by
  have : (w.alloc (.cells #[.string s1.name, .slice s1.p.a s1.p.n s1.p.c, .int .i64 s1.ret.k, .string s1.ret.c, .int .i64 s1.lo, .int .i64 s1.st, .slice s1.c.a s1.c.n s1.c.c, .slice s1.h.a s1.h.n s1.h.c] 47)).heap.size = w.heap.size + 1 := by simp
  rw [← this]
  exact heap_alloc_new _ _
 have EQ := equal_any _ _ _ _ _ (h1.p.kept G0) (h2.p.kept G0)
 have hte := ty_eq s1.ret s2.ret
 have e1 : s1.ret = m1.ret := h1.ret
 have e2 : s2.ret = m2.ret := h2.ret
 obtain ⟨a0, a1, a2, a3, a4, a5, a6, a7⟩ := box8 A0
 obtain ⟨b0, b1, b2, b3, b4, b5, b6, b7⟩ := box8 B0
 have HG : Hid (_) := G0
 clear h1 h2 G0 A0 B0
 generalize hW : (w.alloc (.cells #[.string s1.name, .slice s1.p.a s1.p.n s1.p.c, .int .i64 s1.ret.k, .string s1.ret.c, .int .i64 s1.lo, .int .i64 s1.st, .slice s1.c.a s1.c.n s1.c.c, .slice s1.h.a s1.h.n s1.h.c] 47)).alloc (.cells #[.string s2.name, .slice s2.p.a s2.p.n s2.p.c, .int .i64 s2.ret.k, .string s2.ret.c, .int .i64 s2.lo, .int .i64 s2.st, .slice s2.c.a s2.c.n s2.c.c, .slice s2.h.a s2.h.n s2.h.c] 47) = W at *
 by_cases hr : m1.ret = m2.ret
 · have HN : Hid (sameT m1 m2 = decide (m1.params = m2.params)) := by show _ = _; unfold sameT; rw [decide_eq_true hr]; rfl
   rw [decide_eq_true (by rw [e1, e2]; exact hr)] at hte
   generalize hd : decide (m1.params = m2.params) = d at *
   clear hr e1 e2 hd
   go_enter Tryz.func112, Tryz.ntmps112
   go_wp2_with fail
   refine EQ.mono ?_
   rintro e w1 ⟨rfl, f1⟩
   go_wp2_with fail
   go_ret
   rw [HN.out]
   exact ⟨rfl, HG.out.new f1 (fun _ _ f => f)⟩
 · have HN : Hid (sameT m1 m2 = false) := by show _ = _; unfold sameT; rw [decide_eq_false hr]; rfl
   rw [decide_eq_false (by rw [e1, e2]; exact hr)] at hte
   clear hr e1 e2
   go_enter Tryz.func112, Tryz.ntmps112
   go_wp2_with fail
   go_ret
   rw [HN.out]
   exact ⟨rfl, HG.out⟩
set_option maxRecDepth 100000 in
set_option maxHeartbeats 1000000 in
theorem differ1_any (w : World) (q : Nat) (y : Ms) (my : Mt) (hq : BoxMs w q y) (hy : MtAt w y my) (x : Ms) (mx : Mt) (hx : MtAt w x mx) :
 Calls Tryz.prog 111 #[.agg #[.string x.name, .slice x.p.a x.p.n x.p.c, .int .i64 x.ret.k, .string x.ret.c, .int .i64 x.lo, .int .i64 x.st, .slice x.c.a x.c.n x.c.c, .slice x.h.a x.h.n x.h.c], .pointer (some ⟨q, 0, none⟩)] w fun e w' => e = .returned (.bool (decide (my.name = mx.name) && !sameT my mx)) ∧ Fr no w w' := by
 have G0 : Fr no w (w.alloc (.cells #[.string x.name, .slice x.p.a x.p.n x.p.c, .int .i64 x.ret.k, .string x.ret.c, .int .i64 x.lo, .int .i64 x.st, .slice x.c.a x.c.n x.c.c, .slice x.h.a x.h.n x.h.c] 47)) := (Fr.refl no w).alloc _ _
 have E0 : (w.alloc (.cells #[.string x.name, .slice x.p.a x.p.n x.p.c, .int .i64 x.ret.k, .string x.ret.c, .int .i64 x.lo, .int .i64 x.st, .slice x.c.a x.c.n x.c.c, .slice x.h.a x.h.n x.h.c] 47)).heap[w.heap.size]? = some (.cells #[.string x.name, .slice x.p.a x.p.n x.p.c, .int .i64 x.ret.k, .string x.ret.c, .int .i64 x.lo, .int .i64 x.st, .slice x.c.a x.c.n x.c.c, .slice x.h.a x.h.n x.h.c] 47 (0, 0)) := heap_alloc_new w _
 have Q0 := hq.kept G0
 have ST := sameTypes_any _ y x my mx (hy.kept G0) (hx.kept G0)
 have hs := H.streq y.name x.name
 obtain ⟨a0, a1, a2, a3, a4, a5, a6, a7⟩ := box8 E0
 obtain ⟨b0, b1, b2, b3, b4, b5, b6, b7⟩ := box8 Q0
 have hne : ¬ w.heap.size = q := fun e => by
  have := lt_of_heap hq
  omega
 have n1 : y.name = my.name := hy.name
 have n2 : x.name = mx.name := hx.name
 have HG : Hid (_) := G0
 clear hq hy hx G0 E0 Q0
 generalize hW : w.alloc (.cells #[.string x.name, .slice x.p.a x.p.n x.p.c, .int .i64 x.ret.k, .string x.ret.c, .int .i64 x.lo, .int .i64 x.st, .slice x.c.a x.c.n x.c.c, .slice x.h.a x.h.n x.h.c] 47) = W at *
 by_cases hn : my.name = mx.name
 · rw [decide_eq_true hn]
   rw [decide_eq_true (by rw [n1, n2]; exact hn)] at hs
   generalize sameT my mx = b at *
   clear hn n1 n2
   go_enter Tryz.func111, Tryz.ntmps111
   go_wp2_with fail
   refine ST.mono ?_
   rintro e w1 ⟨rfl, f1⟩
   go_wp2_with fail
   go_ret
   exact ⟨by first | rfl | (simp; done), HG.out.new f1 (fun _ _ f => f)⟩
 · rw [decide_eq_false hn]
   rw [decide_eq_false (by rw [n1, n2]; exact hn)] at hs
   clear hn n1 n2 ST
   go_enter Tryz.func111, Tryz.ntmps111
   go_wp2_with fail
   go_ret
   exact ⟨by first | rfl | (simp; done), HG.out⟩
theorem share1_any (w : World) (q : Nat) (y : Fd) (hq : BoxFd w q y) (x : Fd) : Calls Tryz.prog 110 #[.agg #[.string x.name, .int .i64 x.ty.k, .string x.ty.c, .bool x.vol], .pointer (some ⟨q, 0, none⟩)] w fun e w' => e = .returned (.bool (decide (y.name = x.name))) ∧ Fr no w w' := by
 have G0 : Fr no w (w.alloc (.cells #[.string x.name, .int .i64 x.ty.k, .string x.ty.c, .bool x.vol] 109)) := (Fr.refl no w).alloc _ _
 have hq' : (w.alloc (.cells #[.string x.name, .int .i64 x.ty.k, .string x.ty.c, .bool x.vol] 109)).cell? ⟨q, 0, none⟩ = some (.string y.name) := by
  have := hq.kept G0
  unfold BoxFd at this
  simp [World.cell?, this]
 have hne : ¬ w.heap.size = q := fun e => by
  have := lt_of_heap hq
  omega
 have hs := H.streq y.name x.name
 have HG : Hid (_) := G0
 clear hq G0
 generalize decide (y.name = x.name) = d at *
 go_enter Tryz.func110, Tryz.ntmps110
 go_wp2_with fail
 go_ret
 exact ⟨by first | rfl | (simp [hs]; done), HG.out⟩
set_option maxRecDepth 100000 in
set_option maxHeartbeats 1000000 in
theorem shareField_any (w : World) (s1 s2 : Ks) (c1 c2 : Cl) (h1 : ClAt w s1 c1) (h2 : ClAt w s2 c2) :
 Calls Tryz.prog 88 #[.agg #[.string s1.name, .string s1.super, .slice s1.p.a s1.p.n s1.p.c, .slice s1.f.a s1.f.n s1.f.c, .slice s1.m.a s1.m.n s1.m.c], .agg #[.string s2.name, .string s2.super, .slice s2.p.a s2.p.n s2.p.c, .slice s2.f.a s2.f.n s2.f.c, .slice s2.m.a s2.m.n s2.m.c]] w fun e w' => e = .returned (.bool (shares c1 c2)) ∧ Fr no w w' := by
 obtain ⟨n1, u1, p1, ⟨fa, fn, fc⟩, m1⟩ := s1
 have hfn : fn = c1.fields.length := by
  obtain ⟨q, c, e⟩ := h1.f.form
  simp only [Value.slice.injEq] at e
  exact e.2.1
 subst hfn
 simp only []
 have G0 : Fr no w ((w.alloc (.cells #[.string n1, .string u1, .slice p1.a p1.n p1.c, .slice fa c1.fields.length fc, .slice m1.a m1.n m1.c] 51)).alloc (.cells #[.string s2.name, .string s2.super, .slice s2.p.a s2.p.n s2.p.c, .slice s2.f.a s2.f.n s2.f.c, .slice s2.m.a s2.m.n s2.m.c] 51)) := ((Fr.refl no w).alloc _ _).alloc _ _
 have A0 : ((w.alloc (.cells #[.string n1, .string u1, .slice p1.a p1.n p1.c, .slice fa c1.fields.length fc, .slice m1.a m1.n m1.c] 51)).alloc (.cells #[.string s2.name, .string s2.super, .slice s2.p.a s2.p.n s2.p.c, .slice s2.f.a s2.f.n s2.f.c, .slice s2.m.a s2.m.n s2.m.c] 51)).heap[w.heap.size]? = some (.cells #[.string n1, .string u1, .slice p1.a p1.n p1.c, .slice fa c1.fields.length fc, .slice m1.a m1.n m1.c] 51 (0, 0)) := (Below.heap_alloc _ _ _ (by simp)).trans (heap_alloc_new w _)
 have B0 : ((w.alloc (.cells #[.string n1, .string u1, .slice p1.a p1.n p1.c, .slice fa c1.fields.length fc, .slice m1.a m1.n m1.c] 51)).alloc (.cells #[.string s2.name, .string s2.super, .slice s2.p.a s2.p.n s2.p.c, .slice s2.f.a s2.f.n s2.f.c, .slice s2.m.a s2.m.n s2.m.c] 51)).heap[w.heap.size + 1]? = some (.cells #[.string s2.name, .string s2.super, .slice s2.p.a s2.p.n s2.p.c, .slice s2.f.a s2.f.n s2.f.c, .slice s2.m.a s2.m.n s2.m.c] 51 (0, 0)) := by
  have : (w.alloc (.cells #[.string n1, .string u1, .slice p1.a p1.n p1.c, .slice fa c1.fields.length fc, .slice m1.a m1.n m1.c] 51)).heap.size = w.heap.size + 1 := by simp
  rw [← this]
  exact heap_alloc_new _ _
 obtain ⟨-, -, -, a3, -⟩ := box5 A0
 have KB : Hid (∀ w', Fr no ((w.alloc (.cells #[.string n1, .string u1, .slice p1.a p1.n p1.c, .slice fa c1.fields.length fc, .slice m1.a m1.n m1.c] 51)).alloc (.cells #[.string s2.name, .string s2.super, .slice s2.p.a s2.p.n s2.p.c, .slice s2.f.a s2.f.n s2.f.c, .slice s2.m.a s2.m.n s2.m.c] 51)) w' → w'.cell? ⟨w.heap.size + 1, 3, none⟩ = some (.slice s2.f.a s2.f.n s2.f.c)) := fun w' hf => (box5 (hf.heap B0 (fun f => f))).2.2.2.1
 have HF1 : Hid (SlG elFd ((w.alloc (.cells #[.string n1, .string u1, .slice p1.a p1.n p1.c, .slice fa c1.fields.length fc, .slice m1.a m1.n m1.c] 51)).alloc (.cells #[.string s2.name, .string s2.super, .slice s2.p.a s2.p.n s2.p.c, .slice s2.f.a s2.f.n s2.f.c, .slice s2.m.a s2.m.n s2.m.c] 51)) (.slice fa c1.fields.length fc) c1.fields) := h1.f.kept G0
 have HF2 : Hid (SlG elFd ((w.alloc (.cells #[.string n1, .string u1, .slice p1.a p1.n p1.c, .slice fa c1.fields.length fc, .slice m1.a m1.n m1.c] 51)).alloc (.cells #[.string s2.name, .string s2.super, .slice s2.p.a s2.p.n s2.p.c, .slice s2.f.a s2.f.n s2.f.c, .slice s2.m.a s2.m.n s2.m.c] 51)) (.slice s2.f.a s2.f.n s2.f.c) c2.fields) := h2.f.kept G0
 have hle : c1.fields.length ≤ fc ∧ fc ≤ 9223372036854775807 := by
  obtain ⟨ad, cp, hv, hcap, hmx, -⟩ := HF1.out
  simp only [Value.slice.injEq] at hv
  unfold maxLen at hmx
  omega
 have HG : Hid (_) := G0
 clear h1 h2 G0 A0 B0
 generalize hnl : c1.fields.length = n at *
 generalize hW : ((w.alloc (.cells #[.string n1, .string u1, .slice p1.a p1.n p1.c, .slice fa n fc, .slice m1.a m1.n m1.c] 51)).alloc (.cells #[.string s2.name, .string s2.super, .slice s2.p.a s2.p.n s2.p.c, .slice s2.f.a s2.f.n s2.f.c, .slice s2.m.a s2.m.n s2.m.c] 51)) = W at *
 go_enter Tryz.func88, Tryz.ntmps88
 go_wp2_with fail
 go_loopw [10] (fun i wr => ∃ (k : Nat), i = .int .i64 (k : Int) ∧ k ≤ n ∧ Fr no W wr ∧ ((c1.fields.take k).any fun f => c2.fields.any fun g => decide (f.name = g.name)) = false) (fun i _ => n - (intOf i).toNat)
 case atStart => exact ⟨0, rfl, by omega, Fr.refl _ _, by simp⟩
 case round =>
  obtain ⟨k, rfl, hk, hw, hall⟩ := hrel
  have HA : Hid (((c1.fields.take k).any fun f => c2.fields.any fun g => decide (f.name = g.name)) = false) := hall
  clear hall
  by_cases hlt : k < n
  · have hki : (k : Int) < (n : Int) := by omega
    obtain ⟨x, hx⟩ : ∃ x, c1.fields[k]? = some x := ⟨_, List.getElem?_eq_getElem (by omega)⟩
    obtain ⟨ad, cp, hv, -, -, hit⟩ := HF1.out.kept hw
    simp only [Value.slice.injEq] at hv
    obtain ⟨rfl, -, -⟩ := hv
    obtain ⟨b, off, rfl, hc⟩ := hit k x hx
    have c0 := hc 0 _ rfl
    have c1' := hc 1 _ rfl
    have c2' := hc 2 _ rfl
    have c3 := hc 3 _ rfl
    simp only [elFd, Nat.add_zero] at c0 c1' c2' c3
    have G1 : Fr no wr (wr.alloc (.cells #[.string x.name, .int .i64 x.ty.k, .string x.ty.c, .bool x.vol] 109)) := (Fr.refl no wr).alloc _ _
    have E1 : BoxFd (wr.alloc (.cells #[.string x.name, .int .i64 x.ty.k, .string x.ty.c, .bool x.vol] 109)) wr.heap.size x := heap_alloc_new wr _
    have g1 := hw.new G1 (fun _ _ f => f)
    have kb := KB.out _ g1
    have AS := hasFd_any _ _ c2.fields (HF2.out.kept g1) wr.heap.size (fun i => match c2.fields[i]? with | some y => decide (x.name = y.name) | none => false) (fun w2 i y f2 hy => by
     have := share1_any w2 wr.heap.size x (E1.kept f2) y
     simp only [hy]
     exact this)
    rw [anyN_list (fun y => decide (x.name = y.name)) c2.fields _ (fun i y hy => by simp only [hy])] at AS
    have HX : Hid (c1.fields[k]? = some x ∧ Fr no W (wr.alloc (.cells #[.string x.name, .int .i64 x.ty.k, .string x.ty.c, .bool x.vol] 109))) := ⟨hx, g1⟩
    clear hit hc hx G1 E1 g1 hw
    cases hb : c2.fields.any (fun y => decide (x.name = y.name)) with
    | true =>
     rw [hb] at AS
     have HT : Hid (shares c1 c2 = true) := List.any_eq_true.2 ⟨x, List.mem_of_getElem? HX.out.1, hb⟩
     clear hb
     go_wp2_with fail
     refine AS.mono ?_
     rintro e w2 ⟨rfl, f2⟩
     go_wp2_with fail
     go_ret
     rw [HT.out]
     exact ⟨rfl, HG.out.new (HX.out.2.new f2 (fun _ _ f => f)) (fun _ _ f => f)⟩
    | false =>
     rw [hb] at AS
     have HT : Hid (((c1.fields.take (k + 1)).any fun f => c2.fields.any fun g => decide (f.name = g.name)) = false) := by
      show _ = _
      rw [take_next _ k x HX.out.1, List.any_append, HA.out]
      simp only [List.any_cons, List.any_nil, Bool.or_false, Bool.false_or]
      exact hb
     clear hb
     go_wp2_with fail
     refine AS.mono ?_
     rintro e w2 ⟨rfl, f2⟩
     go_wp2_with fail
     go_roundw
     case rel => exact ⟨k + 1, by go_num, by omega, HX.out.2.new f2 (fun _ _ f => f), HT.out⟩
     case measure => simp [intOf]; omega
  · have hkn : k = n := by omega
    subst hkn
    have HT : Hid (shares c1 c2 = false) := by
     have := HA.out
     rw [← hnl, List.take_length] at this
     exact this
    go_wp2_with fail
    go_ret
    rw [HT.out]
    exact ⟨rfl, HG.out.new hw (fun _ _ f => f)⟩
set_option maxRecDepth 100000 in
set_option maxHeartbeats 2000000 in
theorem methodsDiffer_any (w : World) (s1 s2 : Ks) (c1 c2 : Cl) (h1 : ClAt w s1 c1) (h2 : ClAt w s2 c2) :
 Calls Tryz.prog 89 #[.agg #[.string s1.name, .string s1.super, .slice s1.p.a s1.p.n s1.p.c, .slice s1.f.a s1.f.n s1.f.c, .slice s1.m.a s1.m.n s1.m.c], .agg #[.string s2.name, .string s2.super, .slice s2.p.a s2.p.n s2.p.c, .slice s2.f.a s2.f.n s2.f.c, .slice s2.m.a s2.m.n s2.m.c]] w fun e w' => e = .returned (.bool (differ c1 c2)) ∧ Fr no w w' := by
 obtain ⟨n1, u1, p1, f1, ⟨ma, mn, mc⟩⟩ := s1
 obtain ⟨ls1, hl1, ha1⟩ := h1.m
 obtain ⟨ls2, hl2, ha2⟩ := h2.m
 have hmn : mn = c1.methods.length := by
  obtain ⟨q, c, e⟩ := hl1.form
  simp only [Value.slice.injEq] at e
  rw [← ha1.1]
  exact e.2.1
 subst hmn
 simp only [] at hl1 ⊢
 have G0 : Fr no w ((w.alloc (.cells #[.string n1, .string u1, .slice p1.a p1.n p1.c, .slice f1.a f1.n f1.c, .slice ma c1.methods.length mc] 51)).alloc (.cells #[.string s2.name, .string s2.super, .slice s2.p.a s2.p.n s2.p.c, .slice s2.f.a s2.f.n s2.f.c, .slice s2.m.a s2.m.n s2.m.c] 51)) := ((Fr.refl no w).alloc _ _).alloc _ _
 have A0 : ((w.alloc (.cells #[.string n1, .string u1, .slice p1.a p1.n p1.c, .slice f1.a f1.n f1.c, .slice ma c1.methods.length mc] 51)).alloc (.cells #[.string s2.name, .string s2.super, .slice s2.p.a s2.p.n s2.p.c, .slice s2.f.a s2.f.n s2.f.c, .slice s2.m.a s2.m.n s2.m.c] 51)).heap[w.heap.size]? = some (.cells #[.string n1, .string u1, .slice p1.a p1.n p1.c, .slice f1.a f1.n f1.c, .slice ma c1.methods.length mc] 51 (0, 0)) := (Below.heap_alloc _ _ _ (by simp)).trans (heap_alloc_new w _)
 have B0 : ((w.alloc (.cells #[.string n1, .string u1, .slice p1.a p1.n p1.c, .slice f1.a f1.n f1.c, .slice ma c1.methods.length mc] 51)).alloc (.cells #[.string s2.name, .string s2.super, .slice s2.p.a s2.p.n s2.p.c, .slice s2.f.a s2.f.n s2.f.c, .slice s2.m.a s2.m.n s2.m.c] 51)).heap[w.heap.size + 1]? = some (.cells #[.string s2.name, .string s2.super, .slice s2.p.a s2.p.n s2.p.c, .slice s2.f.a s2.f.n s2.f.c, .slice s2.m.a s2.m.n s2.m.c] 51 (0, 0)) := by
  have : (w.alloc (.cells #[.string n1, .string u1, .slice p1.a p1.n p1.c, .slice f1.a f1.n f1.c, .slice ma c1.methods.length mc] 51)).heap.size = w.heap.size + 1 := by simp
  rw [← this]
  exact heap_alloc_new _ _
 obtain ⟨-, -, -, -, a4⟩ := box5 A0
 have KB : Hid (∀ w', Fr no ((w.alloc (.cells #[.string n1, .string u1, .slice p1.a p1.n p1.c, .slice f1.a f1.n f1.c, .slice ma c1.methods.length mc] 51)).alloc (.cells #[.string s2.name, .string s2.super, .slice s2.p.a s2.p.n s2.p.c, .slice s2.f.a s2.f.n s2.f.c, .slice s2.m.a s2.m.n s2.m.c] 51)) w' → w'.cell? ⟨w.heap.size + 1, 4, none⟩ = some (.slice s2.m.a s2.m.n s2.m.c)) := fun w' hf => (box5 (hf.heap B0 (fun f => f))).2.2.2.2
 have HF1 : Hid (SlG elMs ((w.alloc (.cells #[.string n1, .string u1, .slice p1.a p1.n p1.c, .slice f1.a f1.n f1.c, .slice ma c1.methods.length mc] 51)).alloc (.cells #[.string s2.name, .string s2.super, .slice s2.p.a s2.p.n s2.p.c, .slice s2.f.a s2.f.n s2.f.c, .slice s2.m.a s2.m.n s2.m.c] 51)) (.slice ma c1.methods.length mc) ls1 ∧ AtAll ((w.alloc (.cells #[.string n1, .string u1, .slice p1.a p1.n p1.c, .slice f1.a f1.n f1.c, .slice ma c1.methods.length mc] 51)).alloc (.cells #[.string s2.name, .string s2.super, .slice s2.p.a s2.p.n s2.p.c, .slice s2.f.a s2.f.n s2.f.c, .slice s2.m.a s2.m.n s2.m.c] 51)) ls1 c1.methods) := ⟨hl1.kept G0, ha1.kept G0⟩
 have HF2 : Hid (SlG elMs ((w.alloc (.cells #[.string n1, .string u1, .slice p1.a p1.n p1.c, .slice f1.a f1.n f1.c, .slice ma c1.methods.length mc] 51)).alloc (.cells #[.string s2.name, .string s2.super, .slice s2.p.a s2.p.n s2.p.c, .slice s2.f.a s2.f.n s2.f.c, .slice s2.m.a s2.m.n s2.m.c] 51)) (.slice s2.m.a s2.m.n s2.m.c) ls2 ∧ AtAll ((w.alloc (.cells #[.string n1, .string u1, .slice p1.a p1.n p1.c, .slice f1.a f1.n f1.c, .slice ma c1.methods.length mc] 51)).alloc (.cells #[.string s2.name, .string s2.super, .slice s2.p.a s2.p.n s2.p.c, .slice s2.f.a s2.f.n s2.f.c, .slice s2.m.a s2.m.n s2.m.c] 51)) ls2 c2.methods) := ⟨hl2.kept G0, ha2.kept G0⟩
 have hle : c1.methods.length ≤ mc ∧ mc ≤ 9223372036854775807 := by
  obtain ⟨ad, cp, hv, hcap, hmx, -⟩ := HF1.out.1
  simp only [Value.slice.injEq] at hv
  unfold maxLen at hmx
  omega
 have HG : Hid (_) := G0
 clear h1 h2 G0 A0 B0 hl1 hl2 ha1 ha2
 generalize hnl : c1.methods.length = n at *
 generalize hW : ((w.alloc (.cells #[.string n1, .string u1, .slice p1.a p1.n p1.c, .slice f1.a f1.n f1.c, .slice ma n mc] 51)).alloc (.cells #[.string s2.name, .string s2.super, .slice s2.p.a s2.p.n s2.p.c, .slice s2.f.a s2.f.n s2.f.c, .slice s2.m.a s2.m.n s2.m.c] 51)) = W at *
 go_enter Tryz.func89, Tryz.ntmps89
 go_wp2_with fail
 go_loopw [10] (fun i wr => ∃ (k : Nat), i = .int .i64 (k : Int) ∧ k ≤ n ∧ Fr no W wr ∧ ((c1.methods.take k).any fun m => c2.methods.any fun n => decide (m.name = n.name) && !sameT m n) = false) (fun i _ => n - (intOf i).toNat)
 case atStart => exact ⟨0, rfl, by omega, Fr.refl _ _, by simp⟩
 case round =>
  obtain ⟨k, rfl, hk, hw, hall⟩ := hrel
  have HA : Hid (((c1.methods.take k).any fun m => c2.methods.any fun n => decide (m.name = n.name) && !sameT m n) = false) := hall
  clear hall
  by_cases hlt : k < n
  · have hki : (k : Int) < (n : Int) := by omega
    obtain ⟨m, hm⟩ : ∃ m, c1.methods[k]? = some m := ⟨_, List.getElem?_eq_getElem (by omega)⟩
    obtain ⟨x, hx⟩ : ∃ x, ls1[k]? = some x := ⟨_, List.getElem?_eq_getElem (by rw [HF1.out.2.1]; omega)⟩
    obtain ⟨ad, cp, hv, -, -, hit⟩ := HF1.out.1.kept hw
    simp only [Value.slice.injEq] at hv
    obtain ⟨rfl, -, -⟩ := hv
    obtain ⟨b, off, rfl, hc⟩ := hit k x hx
    have c0 := hc 0 _ rfl
    have c1' := hc 1 _ rfl
    have c2' := hc 2 _ rfl
    have c3 := hc 3 _ rfl
    have c4 := hc 4 _ rfl
    have c5 := hc 5 _ rfl
    have c6 := hc 6 _ rfl
    have c7 := hc 7 _ rfl
    simp only [elMs, Nat.add_zero] at c0 c1' c2' c3 c4 c5 c6 c7
    have G1 : Fr no wr (wr.alloc (.cells #[.string x.name, .slice x.p.a x.p.n x.p.c, .int .i64 x.ret.k, .string x.ret.c, .int .i64 x.lo, .int .i64 x.st, .slice x.c.a x.c.n x.c.c, .slice x.h.a x.h.n x.h.c] 47)) := (Fr.refl no wr).alloc _ _
    have E1 : BoxMs (wr.alloc (.cells #[.string x.name, .slice x.p.a x.p.n x.p.c, .int .i64 x.ret.k, .string x.ret.c, .int .i64 x.lo, .int .i64 x.st, .slice x.c.a x.c.n x.c.c, .slice x.h.a x.h.n x.h.c] 47)) wr.heap.size x := heap_alloc_new wr _
    have g1 := hw.new G1 (fun _ _ f => f)
    have kb := KB.out _ g1
    have mx := (HF1.out.2.2 k x m hx hm).kept g1
    have A2 := HF2.out.2.kept g1
    have AS := hasMs_any _ _ ls2 (HF2.out.1.kept g1) wr.heap.size (fun i => match c2.methods[i]? with | some y => decide (m.name = y.name) && !sameT m y | none => false) (fun w2 i y f2 hy => by
     have hil : i < ls2.length := (List.getElem?_eq_some_iff.1 hy).1
     obtain ⟨my, hmy⟩ : ∃ my, c2.methods[i]? = some my := ⟨_, List.getElem?_eq_getElem (by rw [← A2.1]; exact hil)⟩
     have := differ1_any w2 wr.heap.size x m (E1.kept f2) (mx.kept f2) y my ((A2.2 i y my hy hmy).kept f2)
     simp only [hmy]
     exact this)
    rw [A2.1, anyN_list (fun y => decide (m.name = y.name) && !sameT m y) c2.methods _ (fun i y hy => by simp only [hy])] at AS
    have HX : Hid (c1.methods[k]? = some m ∧ Fr no W (wr.alloc (.cells #[.string x.name, .slice x.p.a x.p.n x.p.c, .int .i64 x.ret.k, .string x.ret.c, .int .i64 x.lo, .int .i64 x.st, .slice x.c.a x.c.n x.c.c, .slice x.h.a x.h.n x.h.c] 47))) := ⟨hm, g1⟩
    clear hit hc hx G1 E1 g1 hw mx A2 hm
    cases hb : c2.methods.any (fun y => decide (m.name = y.name) && !sameT m y) with
    | true =>
     rw [hb] at AS
     have HT : Hid (differ c1 c2 = true) := List.any_eq_true.2 ⟨m, List.mem_of_getElem? HX.out.1, hb⟩
     clear hb
     go_wp2_with fail
     refine AS.mono ?_
     rintro e w2 ⟨rfl, f2⟩
     go_wp2_with fail
     go_ret
     rw [HT.out]
     exact ⟨rfl, HG.out.new (HX.out.2.new f2 (fun _ _ f => f)) (fun _ _ f => f)⟩
    | false =>
     rw [hb] at AS
     have HT : Hid (((c1.methods.take (k + 1)).any fun m => c2.methods.any fun n => decide (m.name = n.name) && !sameT m n) = false) := by
      show _ = _
      rw [take_next _ k m HX.out.1, List.any_append, HA.out]
      simp only [List.any_cons, List.any_nil, Bool.or_false, Bool.false_or]
      exact hb
     clear hb
     go_wp2_with fail
     refine AS.mono ?_
     rintro e w2 ⟨rfl, f2⟩
     go_wp2_with fail
     go_roundw
     case rel => exact ⟨k + 1, by go_num, by omega, HX.out.2.new f2 (fun _ _ f => f), HT.out⟩
     case measure => simp [intOf]; omega
  · have hkn : k = n := by omega
    subst hkn
    have HT : Hid (differ c1 c2 = false) := by
     have := HA.out
     rw [← hnl, List.take_length] at this
     exact this
    go_wp2_with fail
    go_ret
    rw [HT.out]
    exact ⟨rfl, HG.out.new hw (fun _ _ f => f)⟩
end Go.Proofs.YtalgjpmaafooeaaGreatDoor
/- What a class's members are made of, and whether those above go with them. -/
namespace Go.Proofs.YtalgjpmaafooeaaGreatDoor
open Go.ChangeShapes Go.WideShapes Go.ChangeAt Go.RowKit
open H (ky Owns MapOf ix up nameAt anc Fine obj fault)
theorem slice_one (g n c : Nat) (h : 1 ≤ n) (hc : n ≤ c) : ∃ o, (∀ w : World, (Instr.sliceAt 75 (.slice (some ⟨g, 0, none⟩) n c) (some (.int .i64 1)) none none).run Tryz.prog w = .ok (.slice (some ⟨g, o, none⟩) (n - 1) (c - 1)) w) ∧ (2 ≤ n → o = 1) := by
 by_cases h1 : c = 1
 · refine ⟨0, fun w => ?_, fun h2 => by omega⟩
   simp [go_sem]
   rw [if_pos (by omega), if_pos h1]
 · refine ⟨1, fun w => ?_, fun _ => rfl⟩
   simp [go_sem]
   rw [if_pos (by omega), if_neg h1]
theorem ev_slice {o : Oper} {a : Act} {w : World} (x : Nat) (v u c : Value) (ho : o.op = .slice 75 (.tmp x) (some (.const c)) none none) (hx : a.eval (.tmp x) = v) (hr : (Instr.sliceAt 75 v (some c) none none).run Tryz.prog w = .ok u w) : (execOp a.eval o).run Tryz.prog w = .ok (.value u) w := by
 have hcc : a.eval (.const c) = c := rfl
 unfold execOp; simp [ho, hx, hcc, hr]
theorem Prg.cls {w : World} {p : Nat} {Cs : List Cl} {A : List Nat} (h : Prg w p Cs A) {j : Nat} (hj : j < Cs.length) : clsAt Cs j ∈ Cs ∧ (namesOf Cs)[j]? = some (clsAt Cs j).name ∧ ix (clsAt Cs j).name (namesOf Cs) = some j ∧ FitC (clsAt Cs j) := by
 have e : clsAt Cs j = Cs[j] := by unfold clsAt; rw [List.getD_eq_getElem?_getD, List.getElem?_eq_getElem hj]; rfl
 have h1 : clsAt Cs j ∈ Cs := by rw [e]; exact List.getElem_mem hj
 have h2 : (namesOf Cs)[j]? = some (clsAt Cs j).name := by unfold namesOf; rw [List.getElem?_map, List.getElem?_eq_getElem hj, e]; rfl
 refine ⟨h1, h2, H.ix_nodup h.nd h2, ?_⟩
 have := h.good.fit (lay Cs A j) (List.mem_of_getElem? (layAll_get hj))
 rw [lay_cls] at this
 exact this
theorem namedP_any (w : World) (p : Nat) (Cs : List Cl) (A : List Nat) (h : Prg w p Cs A) (j : Nat) (hj : j < Cs.length) :
 Calls Tryz.prog 86 #[.pointer (some ⟨p, 0, none⟩), .string (clsAt Cs j).name] w fun e w' => ∃ s, e = .returned (ksV s) ∧ ClAt w' s (clsAt Cs j) ∧ Fr no w w' := by
 obtain ⟨w0, hp, m, v, X, ch, P, -⟩ := h.ex
 obtain ⟨-, -, hix, hfit⟩ := h.cls hj
 refine (named_any w0 w p hp m v X _ P (clsAt Cs j).name hfit.name j (by rw [layAll_names]; exact hix)).mono ?_
 rintro e w' ⟨x, hx, rfl, hf⟩
 have L := P.at' j x _ hx (layAll_get hj)
 have := L.k
 rw [lay_cls] at this
 exact ⟨x.k, rfl, this.at'.kept hf, hf⟩
theorem up_pos (A : List Nat) (n i : Nat) (hn : 0 < n) : 1 ≤ (up A n i).1.length := by
 obtain ⟨m, rfl⟩ : ∃ m, n = m + 1 := ⟨n - 1, by omega⟩
 unfold up
 split <;> simp
set_option maxRecDepth 100000 in
set_option maxHeartbeats 4000000 in
theorem checkMembers_any (w : World) (p : Nat) (Cs : List Cl) (A : List Nat) (h : Prg w p Cs A) (i : Nat) (hi : i < Cs.length) (x : Lk) (hx : ClAt w x.k (clsAt Cs i)) :
 Calls Tryz.prog 50 #[.pointer (some ⟨p, 0, none⟩), .agg #[.string x.k.name, .string x.k.super, .slice x.k.p.a x.k.p.n x.k.p.c, .slice x.k.f.a x.k.f.n x.k.f.c, .slice x.k.m.a x.k.m.n x.k.m.c, .slice x.s.a x.s.n x.s.c, .int .i64 x.wd, .map (some x.fm), .map (some x.mm)]] w fun e w' => e = .returned (.int .i64 (memE Cs A i : Int)) ∧ Fr no w w' := by
 obtain ⟨hp, b0, hh⟩ := h.hier
 obtain ⟨hmem, hnm, hix, hfit⟩ := h.cls hi
 have G0 : Fr no w (w.alloc (.cells #[.string x.k.name, .string x.k.super, .slice x.k.p.a x.k.p.n x.k.p.c, .slice x.k.f.a x.k.f.n x.k.f.c, .slice x.k.m.a x.k.m.n x.k.m.c, .slice x.s.a x.s.n x.s.c, .int .i64 x.wd, .map (some x.fm), .map (some x.mm)] 128)) := (Fr.refl no w).alloc _ _
 have E0 : (w.alloc (.cells #[.string x.k.name, .string x.k.super, .slice x.k.p.a x.k.p.n x.k.p.c, .slice x.k.f.a x.k.f.n x.k.f.c, .slice x.k.m.a x.k.m.n x.k.m.c, .slice x.s.a x.s.n x.s.c, .int .i64 x.wd, .map (some x.fm), .map (some x.mm)] 128)).heap[w.heap.size]? = some (.cells #[.string x.k.name, .string x.k.super, .slice x.k.p.a x.k.p.n x.k.p.c, .slice x.k.f.a x.k.f.n x.k.f.c, .slice x.k.m.a x.k.m.n x.k.m.c, .slice x.s.a x.s.n x.s.c, .int .i64 x.wd, .map (some x.fm), .map (some x.mm)] 128 (0, 0)) := heap_alloc_new w _
 have HC := hasClasses_any _ p Cs A (h.keep G0) x.k (clsAt Cs i) (hx.kept G0) hfit
 have d0 := cell_at (o := 0) E0
 have d1 := cell_at (o := 1) E0
 have d2 := cell_at (o := 2) E0
 have d3 := cell_at (o := 3) E0
 have d4 := cell_at (o := 4) E0
 simp only [List.getElem?_toArray, List.getElem?_cons_zero, List.getElem?_cons_succ] at d0 d1 d2 d3 d4
 have hxn : x.k.name = (clsAt Cs i).name := hx.name
 have hlen0 : 0 < Cs.length := by omega
 have HAN : Hid (∀ w', Fr no (w.alloc (.cells #[.string x.k.name, .string x.k.super, .slice x.k.p.a x.k.p.n x.k.p.c, .slice x.k.f.a x.k.f.n x.k.f.c, .slice x.k.m.a x.k.m.n x.k.m.c, .slice x.s.a x.s.n x.s.c, .int .i64 x.wd, .map (some x.fm), .map (some x.mm)] 128)) w' → Calls Tryz.prog 84 #[.pointer (some ⟨hp, 0, none⟩), .string x.k.name] w' fun e w2 => ∃ v, e = .returned v ∧ H.OwnG H.elS w2 v ((up A Cs.length i).1.map (nameAt (namesOf Cs))) ∧ Fr no w' w2) := fun w' hf => by
  obtain ⟨ch, hb⟩ := hh w' (G0.new hf (fun _ _ f => f))
  have := H.ancestors_any w' hp (namesOf Cs) A hb (by have := h.fine; simpa [namesOf] using this) (by have := h.few; simp [namesOf]; omega) x.k.name (by rw [hxn]; exact hfit.name)
  refine this.mono ?_
  rintro e w2 ⟨v, rfl, ov, -, f2⟩
  refine ⟨v, rfl, ?_, f2⟩
  have e1 : anc (namesOf Cs) A x.k.name = (up A Cs.length i).1.map (nameAt (namesOf Cs)) := by
   unfold anc
   rw [hxn, hix]
   simp [namesOf]
  rw [← e1]
  exact ov
 have HP : Hid (∀ w', Fr no (w.alloc (.cells #[.string x.k.name, .string x.k.super, .slice x.k.p.a x.k.p.n x.k.p.c, .slice x.k.f.a x.k.f.n x.k.f.c, .slice x.k.m.a x.k.m.n x.k.m.c, .slice x.s.a x.s.n x.s.c, .int .i64 x.wd, .map (some x.fm), .map (some x.mm)] 128)) w' → Prg w' p Cs A ∧ ClAt w' x.k (clsAt Cs i) ∧ w'.heap[w.heap.size]? = some (.cells #[.string x.k.name, .string x.k.super, .slice x.k.p.a x.k.p.n x.k.p.c, .slice x.k.f.a x.k.f.n x.k.f.c, .slice x.k.m.a x.k.m.n x.k.m.c, .slice x.s.a x.s.n x.s.c, .int .i64 x.wd, .map (some x.fm), .map (some x.mm)] 128 (0, 0)) ∧ w'.cell? ⟨p, 0, none⟩ = some (.pointer (some ⟨hp, 0, none⟩))) := fun w' hf => ⟨(h.keep G0).keep hf, (hx.kept G0).kept hf, hf.heap E0 (fun f => f), hf.cell (G0.cell b0 (fun f => f)) (fun f => f)⟩
 have HW : Hid (∀ k j, ((up A Cs.length i).1.drop 1)[k]? = some j → j < Cs.length ∧ nameAt (namesOf Cs) j = (clsAt Cs j).name) := fun k j hk => by
  have hj := H.up_lt h.fine Cs.length i hi j (List.mem_of_mem_drop (List.mem_of_getElem? hk))
  refine ⟨hj, ?_⟩
  unfold nameAt
  rw [List.getD_eq_getElem?_getD, (h.cls hj).2.1]
  rfl
 have HUP : Hid (1 ≤ (up A Cs.length i).1.length ∧ (up A Cs.length i).1.length ≤ 18) := ⟨up_pos A _ i hlen0, Nat.le_trans (H.up_len A _ i) h.few⟩
 have HG : Hid (_) := G0
 have HE : Hid (memE Cs A i = if noCls (namesOf Cs) (clsAt Cs i) = true then 70 else if (above Cs A i).any (shares (clsAt Cs i)) = true then 53 else if (above Cs A i).any (differ (clsAt Cs i)) = true then 73 else 0) := rfl
 have HAB : Hid (above Cs A i = ((up A Cs.length i).1.drop 1).map (clsAt Cs)) := rfl
 clear h hh G0 E0 b0 hmem hnm hix hfit hx hxn hlen0
 generalize hW : w.alloc (.cells #[.string x.k.name, .string x.k.super, .slice x.k.p.a x.k.p.n x.k.p.c, .slice x.k.f.a x.k.f.n x.k.f.c, .slice x.k.m.a x.k.m.n x.k.m.c, .slice x.s.a x.s.n x.s.c, .int .i64 x.wd, .map (some x.fm), .map (some x.mm)] 128) = W at *
 generalize hUL : (up A Cs.length i).1 = U at *
 cases hno : noCls (namesOf Cs) (clsAt Cs i) with
 | true =>
  have HN : Hid (memE Cs A i = 70) := by show _ = _; rw [HE.out, if_pos hno]
  rw [hno] at HC
  simp only [Bool.not_true] at HC
  clear hno
  go_enter Tryz.func50, Tryz.ntmps50
  go_wp2_with fail
  refine HC.mono ?_
  rintro e w1 ⟨rfl, f1⟩
  go_wp2_with fail
  go_ret
  rw [HN.out]
  exact ⟨rfl, HG.out.new f1 (fun _ _ f => f)⟩
 | false =>
  have HN0 : Hid (memE Cs A i = if (above Cs A i).any (shares (clsAt Cs i)) = true then 53 else if (above Cs A i).any (differ (clsAt Cs i)) = true then 73 else 0) := by show _ = _; rw [HE.out, if_neg (by rw [hno]; simp)]
  rw [hno] at HC
  simp only [Bool.not_false] at HC
  clear hno
  go_enter Tryz.func50, Tryz.ntmps50
  go_wp2_with fail
  refine HC.mono ?_
  rintro e w1 ⟨rfl, f1⟩
  clear HC d0 d1 d2 d3 d4
  go_wp2_with fail
  have HS0 : Hid (Fr no w1 w1.drew) := (Fr.refl no w1).drew
  have AN := HAN.out w1.drew (f1.drew)
  refine late_begin (S := fun w' => Fr no w1 w') (g := 7) (by kernel_rfl) ?_
  refine late_pure 0 (ptr p 0) rfl (by kernel_rfl) (by kernel_rfl) (by kernel_rfl) (fun _ _ _ h => h) (by decide) (yields rfl (fun _ _ => ev_move 0 _ rfl (by kernel_rfl))) (fun _ => HS0.out) ?_
  refine late_pure 1 (ptr p 0) rfl (by kernel_rfl) (by kernel_rfl) (by kernel_rfl) (fun _ _ _ h => h) (by decide) (yields rfl (fun _ _ => ev_nil 15 ⟨p, 0, none⟩ rfl (by kernel_rfl))) (fun _ => HS0.out) ?_
  refine late_pure 2 (ptr p 0) rfl (by kernel_rfl) (by kernel_rfl) (by kernel_rfl) (fun _ _ _ h => h) (by decide) (yields rfl (fun _ _ => ev_field 120 16 0 (ptr p 0) _ rfl (by kernel_rfl) (by kernel_rfl))) (fun _ => HS0.out) ?_
  refine late_take 3 (ptr hp 0) rfl (by kernel_rfl) (by kernel_rfl) (by kernel_rfl) (fun _ _ _ h => h) (waits_of (by kernel_rfl)) (by decide) (by kernel_rfl) (yields rfl (fun w' hS => ev_load 72 17 (ptr p 0) _ rfl (by kernel_rfl) (by simp [go_sem, (HP.out w' (f1.new hS (fun _ _ f => f))).2.2.2]))) HS0.out ?_
  refine late_pure 4 (ptr w.heap.size 0) rfl (by kernel_rfl) (by kernel_rfl) (by kernel_rfl) (fun _ _ _ h => h) (by decide) (yields rfl (fun _ _ => ev_field 128 3 0 (ptr w.heap.size 0) _ rfl (by kernel_rfl) (by kernel_rfl))) (fun _ => HS0.out) ?_
  refine late_pure 5 (ptr w.heap.size 0) rfl (by kernel_rfl) (by kernel_rfl) (by kernel_rfl) (fun _ _ _ h => h) (by decide) (yields rfl (fun _ _ => ev_field 51 19 0 (ptr w.heap.size 0) _ rfl (by kernel_rfl) (by kernel_rfl))) (fun _ => HS0.out) ?_
  refine late_take 6 (.string x.k.name) rfl (by kernel_rfl) (by kernel_rfl) (by kernel_rfl) (fun _ _ _ h => h) (waits_of (by kernel_rfl)) (by decide) (by kernel_rfl) (yields rfl (fun w' hS => ev_load 9 20 (ptr w.heap.size 0) _ rfl (by kernel_rfl) (by simp [go_sem, cell_at (o := 0) (HP.out w' (f1.new hS (fun _ _ f => f))).2.2.1]))) HS0.out ?_
  refine late_all [7] (by kernel_rfl) (by simp) (fun j hj => ?_)
  obtain rfl := one_of hj
  refine late_call (f := 84) rfl rfl (by kernel_rfl) (R := fun v w' => H.OwnG H.elS w' v (U.map (nameAt (namesOf Cs))) ∧ Fr no w1.drew w') (AN.mono (fun e w' ⟨v, h1, h2, h3⟩ => ⟨v, h1, h2, h3⟩)) (fun v w2 hv => ?_)
  obtain ⟨ov, f2⟩ := hv
  have g2 : Fr no W w2 := f1.drew.new f2 (fun _ _ f => f)
  obtain ⟨q2, c2, rfl⟩ := ov.form
  have hul := HUP.out
  rw [List.length_map]
  obtain ⟨g, rfl⟩ : ∃ g, q2 = some ⟨g, 0, none⟩ := by
   rcases ov.2 with ⟨e, h0⟩ | ⟨gg, cc, cu, e, _⟩
   · rw [List.length_map] at h0
     omega
   · simp only [Value.slice.injEq] at e
     exact ⟨gg, e.1⟩
  obtain ⟨ad, cp, ev, hcap, hmx, -, hway⟩ := ov.sl
  simp only [Value.slice.injEq] at ev
  obtain ⟨rfl, -, rfl⟩ := ev
  rw [List.length_map] at hcap
  obtain ⟨os, hsl, hos⟩ := slice_one g U.length c2 hul.1 hcap
  refine ⟨(fun h => Bool.noConfusion (show true = false from h)), ?_⟩
  refine late_pure 8 (.slice (some ⟨g, os, none⟩) (U.length - 1) (c2 - 1)) rfl (by kernel_rfl) (by kernel_rfl) (by kernel_rfl) (fun _ _ _ h => h) (by decide) (yields rfl (fun w' _ => ev_slice 22 _ _ _ rfl (by kernel_rfl) (hsl w'))) (fun h => Bool.noConfusion (show true = false from h)) ?_
  refine late_pure 9 (.slice (some ⟨g, os, none⟩) (U.length - 1) (c2 - 1)) rfl (by kernel_rfl) (by kernel_rfl) (by kernel_rfl) (fun _ _ _ h => h) (by decide) (yields rfl (fun _ _ => ev_assign 23 _ rfl (by kernel_rfl))) (fun h => Bool.noConfusion (show true = false from h)) ?_
  refine late_done (by kernel_rfl) ?_
  have HWAY : Hid (∀ w', Fr no w2 w' → ∀ k j, (U.drop 1)[k]? = some j → w'.cell? ⟨g, os + k, none⟩ = some (.string (clsAt Cs j).name)) := fun w' hf k j hj => by
   have hj' : U[k + 1]? = some j := by rw [List.getElem?_drop] at hj; rwa [Nat.add_comm] at hj
   have h2 : 2 ≤ U.length := by have := (List.getElem?_eq_some_iff.1 hj').1; omega
   rw [hos h2]
   obtain ⟨b, off, hbo, hcc⟩ := hway (k + 1) (nameAt (namesOf Cs) j) (by rw [List.getElem?_map, hj']; rfl)
   simp only [Option.some.injEq, Addr.mk.injEq] at hbo
   obtain ⟨rfl, rfl, -⟩ := hbo
   have := hf.cell hcc (fun f => f)
   rw [(HW.out k j hj).2] at this
   rw [show 1 + k = 0 + (k + 1) by omega]
   exact this
  have HNL0 : Hid ((U.drop 1).length = U.length - 1) := by show _ = _; simp
  have HG2 : Hid (Fr no W w2) := g2
  have hn18 : U.length - 1 ≤ 18 := by omega
  have hc18 : U.length - 1 ≤ c2 - 1 := by omega
  clear hsl hos hway ov AN f1 f2 HS0 HAN hcap hmx g2 HE
  generalize hnl : U.length - 1 = nl at *
  have HNL : Hid ((U.drop 1).length = nl) := HNL0.out
  clear HNL0
  have HST : Hid (Fr no w2 w2) := Fr.refl no w2
  go_wp2_with fail
  go_loopw [26] (fun t wr => ∃ (k : Nat), t = .int .i64 (k : Int) ∧ k ≤ nl ∧ Fr no w2 wr ∧ (((U.drop 1).take k).any fun j => shares (clsAt Cs i) (clsAt Cs j)) = false) (fun t _ => nl - (intOf t).toNat)
  case atStart => exact ⟨0, rfl, by omega, HST.out, by simp⟩
  case round =>
   obtain ⟨k, rfl, hk, hw, hall⟩ := hrel
   have HA : Hid ((((U.drop 1).take k).any fun j => shares (clsAt Cs i) (clsAt Cs j)) = false) := hall
   clear hall
   by_cases hlt : k < nl
   · have hki : (k : Int) < (nl : Int) := by omega
     obtain ⟨j, hj⟩ : ∃ j, (U.drop 1)[k]? = some j := ⟨_, List.getElem?_eq_getElem (by rw [← HNL.out] at hlt; exact hlt)⟩
     have hcw := HWAY.out wr hw k j hj
     have hjc := (HW.out k j hj).1
     have gw : Fr no W wr := HG2.out.new hw (fun _ _ f => f)
     have NA := namedP_any wr.drew p Cs A (HP.out wr.drew gw.drew).1 j hjc
     have HJ : Hid (((U.drop 1)[k]? = some j) ∧ Fr no W wr ∧ Fr no w2 wr) := ⟨hj, gw, hw⟩
     have HBX : Hid (∀ w', Fr no wr w' → w'.heap[w.heap.size]? = some (.cells #[.string x.k.name, .string x.k.super, .slice x.k.p.a x.k.p.n x.k.p.c, .slice x.k.f.a x.k.f.n x.k.f.c, .slice x.k.m.a x.k.m.n x.k.m.c, .slice x.s.a x.s.n x.s.c, .int .i64 x.wd, .map (some x.fm), .map (some x.mm)] 128 (0, 0))) := fun w' hf => (HP.out w' (gw.new hf (fun _ _ f => f))).2.2.1
     have HS0 : Hid (Fr no wr wr.drew) := (Fr.refl no wr).drew
     have HXC : Hid (∀ w', Fr no wr w' → ClAt w' x.k (clsAt Cs i)) := fun w' hf => (HP.out w' (gw.new hf (fun _ _ f => f))).2.1
     clear hj hw gw
     go_wp2_with fail
     refine late_begin (S := fun w' => Fr no wr w') (g := 5) (by kernel_rfl) ?_
     refine late_pure 0 (ptr w.heap.size 0) rfl (by kernel_rfl) (by kernel_rfl) (by kernel_rfl) (fun _ _ _ h => h) (by decide) (yields rfl (fun _ _ => ev_field 128 3 0 (ptr w.heap.size 0) _ rfl (by kernel_rfl) (by kernel_rfl))) (fun _ => HS0.out) ?_
     refine late_take 1 (.agg #[.string x.k.name, .string x.k.super, .slice x.k.p.a x.k.p.n x.k.p.c, .slice x.k.f.a x.k.f.n x.k.f.c, .slice x.k.m.a x.k.m.n x.k.m.c]) rfl (by kernel_rfl) (by kernel_rfl) (by kernel_rfl) (fun _ _ _ h => h) (waits_of (by kernel_rfl)) (by decide) (by kernel_rfl) (yields rfl (fun w' hS => ev_load 51 30 (ptr w.heap.size 0) _ rfl (by kernel_rfl) (load_at w' _ 0 51 128 [.string x.k.name, .string x.k.super, .slice x.k.p.a x.k.p.n x.k.p.c, .slice x.k.f.a x.k.f.n x.k.f.c, .slice x.k.m.a x.k.m.n x.k.m.c] _ _ (HBX.out w' hS) (fun j v hv => by match j, hv with | 0, hv => exact hv | 1, hv => exact hv | 2, hv => exact hv | 3, hv => exact hv | 4, hv => exact hv | n + 5, hv => simp at hv) Tryz.underlying51 rfl (by kernel_rfl)))) HS0.out ?_
     refine late_pure 2 (ptr p 0) rfl (by kernel_rfl) (by kernel_rfl) (by kernel_rfl) (fun _ _ _ h => h) (by decide) (yields rfl (fun _ _ => ev_move 0 _ rfl (by kernel_rfl))) (fun _ => HS0.out) ?_
     refine late_pure 3 (.string (clsAt Cs j).name) rfl (by kernel_rfl) (by kernel_rfl) (by kernel_rfl) (fun _ _ _ h => h) (by decide) (yields rfl (fun _ _ => ev_move 7 _ rfl (by kernel_rfl))) (fun _ => HS0.out) ?_
     refine late_all [4] (by kernel_rfl) (by simp) (fun jj hjj => ?_)
     obtain rfl := one_of hjj
     refine late_call (f := 86) rfl rfl (by kernel_rfl) (R := fun v w' => ∃ sj, v = ksV sj ∧ ClAt w' sj (clsAt Cs j) ∧ Fr no wr.drew w') (NA.mono (fun e w' ⟨sj, h1, h2, h3⟩ => ⟨_, h1, sj, rfl, h2, h3⟩)) (fun v w3 hv => ?_)
     obtain ⟨sj, rfl, cj, f3⟩ := hv
     have g3 : Fr no wr w3 := (Fr.refl no wr).drew.new f3 (fun _ _ f => f)
     refine ⟨fun _ => g3, ?_⟩
     have SF := shareField_any w3 x.k sj (clsAt Cs i) (clsAt Cs j) (HXC.out w3 g3) cj
     unfold ksV
     refine late_all [5] (by kernel_rfl) (by simp) (fun jj hjj => ?_)
     obtain rfl := one_of hjj
     refine late_call (f := 88) rfl rfl (by kernel_rfl) (R := fun v w' => v = .bool (shares (clsAt Cs i) (clsAt Cs j)) ∧ Fr no w3 w') (SF.mono (fun e w' ⟨h1, h2⟩ => ⟨_, h1, rfl, h2⟩)) (fun v w4 hv => ?_)
     obtain ⟨rfl, f4⟩ := hv
     have g4 : Fr no wr w4 := g3.new f4 (fun _ _ f => f)
     refine ⟨(fun h => Bool.noConfusion (show true = false from h)), ?_⟩
     refine late_done (by kernel_rfl) ?_
     clear SF NA cj f3 f4 g3
     cases hb : shares (clsAt Cs i) (clsAt Cs j) with
     | true =>
      have HT : Hid ((above Cs A i).any (shares (clsAt Cs i)) = true) := by
       show _ = _
       rw [HAB.out]
       exact List.any_eq_true.2 ⟨_, List.mem_map_of_mem (List.mem_of_getElem? HJ.out.1), hb⟩
      clear hb
      go_wp2_with fail
      go_ret
      rw [HN0.out, if_pos HT.out]
      exact ⟨rfl, HG.out.new (HJ.out.2.1.new g4 (fun _ _ f => f)) (fun _ _ f => f)⟩
     | false =>
      have HT : Hid ((((U.drop 1).take (k + 1)).any fun j => shares (clsAt Cs i) (clsAt Cs j)) = false) := by
       show _ = _
       rw [take_next _ k j HJ.out.1, List.any_append, HA.out]
       simp only [List.any_cons, List.any_nil, Bool.or_false, Bool.false_or]
       exact hb
      clear hb
      go_wp2_with fail
      go_roundw
      case rel => exact ⟨k + 1, by go_num, by omega, HJ.out.2.2.new g4 (fun _ _ f => f), HT.out⟩
      case measure => simp [intOf]; omega
   · have hkn : nl = k := by omega
     subst hkn
     have HT : Hid ((above Cs A i).any (shares (clsAt Cs i)) = false) := by
      have := HA.out
      rw [← HNL.out, List.take_length] at this
      show _ = _
      rw [HAB.out, List.any_map]
      exact this
     have HTA : Hid (_) := HT
     have HST : Hid (Fr no w2 wr) := hw
     clear hw hlt hk HA HT
     go_wp2_with fail
     go_loopw [39] (fun t wr => ∃ (k : Nat), t = .int .i64 (k : Int) ∧ k ≤ nl ∧ Fr no w2 wr ∧ (((U.drop 1).take k).any fun j => differ (clsAt Cs i) (clsAt Cs j)) = false) (fun t _ => nl - (intOf t).toNat)
     case atStart => exact ⟨0, rfl, by omega, HST.out, by simp⟩
     case round =>
      obtain ⟨k, rfl, hk, hw, hall⟩ := hrel
      have HA : Hid ((((U.drop 1).take k).any fun j => differ (clsAt Cs i) (clsAt Cs j)) = false) := hall
      clear hall
      by_cases hlt : k < nl
      · have hki : (k : Int) < (nl : Int) := by omega
        obtain ⟨j, hj⟩ : ∃ j, (U.drop 1)[k]? = some j := ⟨_, List.getElem?_eq_getElem (by rw [← HNL.out] at hlt; exact hlt)⟩
        have hcw := HWAY.out wr hw k j hj
        have hjc := (HW.out k j hj).1
        have gw : Fr no W wr := HG2.out.new hw (fun _ _ f => f)
        have NA := namedP_any wr.drew p Cs A (HP.out wr.drew gw.drew).1 j hjc
        have HJ : Hid (((U.drop 1)[k]? = some j) ∧ Fr no W wr ∧ Fr no w2 wr) := ⟨hj, gw, hw⟩
        have HBX : Hid (∀ w', Fr no wr w' → w'.heap[w.heap.size]? = some (.cells #[.string x.k.name, .string x.k.super, .slice x.k.p.a x.k.p.n x.k.p.c, .slice x.k.f.a x.k.f.n x.k.f.c, .slice x.k.m.a x.k.m.n x.k.m.c, .slice x.s.a x.s.n x.s.c, .int .i64 x.wd, .map (some x.fm), .map (some x.mm)] 128 (0, 0))) := fun w' hf => (HP.out w' (gw.new hf (fun _ _ f => f))).2.2.1
        have HS0 : Hid (Fr no wr wr.drew) := (Fr.refl no wr).drew
        have HXC : Hid (∀ w', Fr no wr w' → ClAt w' x.k (clsAt Cs i)) := fun w' hf => (HP.out w' (gw.new hf (fun _ _ f => f))).2.1
        clear hj hw gw
        go_wp2_with fail
        refine late_begin (S := fun w' => Fr no wr w') (g := 5) (by kernel_rfl) ?_
        refine late_pure 0 (ptr w.heap.size 0) rfl (by kernel_rfl) (by kernel_rfl) (by kernel_rfl) (fun _ _ _ h => h) (by decide) (yields rfl (fun _ _ => ev_field 128 3 0 (ptr w.heap.size 0) _ rfl (by kernel_rfl) (by kernel_rfl))) (fun _ => HS0.out) ?_
        refine late_take 1 (.agg #[.string x.k.name, .string x.k.super, .slice x.k.p.a x.k.p.n x.k.p.c, .slice x.k.f.a x.k.f.n x.k.f.c, .slice x.k.m.a x.k.m.n x.k.m.c]) rfl (by kernel_rfl) (by kernel_rfl) (by kernel_rfl) (fun _ _ _ h => h) (waits_of (by kernel_rfl)) (by decide) (by kernel_rfl) (yields rfl (fun w' hS => ev_load 51 43 (ptr w.heap.size 0) _ rfl (by kernel_rfl) (load_at w' _ 0 51 128 [.string x.k.name, .string x.k.super, .slice x.k.p.a x.k.p.n x.k.p.c, .slice x.k.f.a x.k.f.n x.k.f.c, .slice x.k.m.a x.k.m.n x.k.m.c] _ _ (HBX.out w' hS) (fun j v hv => by match j, hv with | 0, hv => exact hv | 1, hv => exact hv | 2, hv => exact hv | 3, hv => exact hv | 4, hv => exact hv | n + 5, hv => simp at hv) Tryz.underlying51 rfl (by kernel_rfl)))) HS0.out ?_
        refine late_pure 2 (ptr p 0) rfl (by kernel_rfl) (by kernel_rfl) (by kernel_rfl) (fun _ _ _ h => h) (by decide) (yields rfl (fun _ _ => ev_move 0 _ rfl (by kernel_rfl))) (fun _ => HS0.out) ?_
        refine late_pure 3 (.string (clsAt Cs j).name) rfl (by kernel_rfl) (by kernel_rfl) (by kernel_rfl) (fun _ _ _ h => h) (by decide) (yields rfl (fun _ _ => ev_move 9 _ rfl (by kernel_rfl))) (fun _ => HS0.out) ?_
        refine late_all [4] (by kernel_rfl) (by simp) (fun jj hjj => ?_)
        obtain rfl := one_of hjj
        refine late_call (f := 86) rfl rfl (by kernel_rfl) (R := fun v w' => ∃ sj, v = ksV sj ∧ ClAt w' sj (clsAt Cs j) ∧ Fr no wr.drew w') (NA.mono (fun e w' ⟨sj, h1, h2, h3⟩ => ⟨_, h1, sj, rfl, h2, h3⟩)) (fun v w3 hv => ?_)
        obtain ⟨sj, rfl, cj, f3⟩ := hv
        have g3 : Fr no wr w3 := (Fr.refl no wr).drew.new f3 (fun _ _ f => f)
        refine ⟨fun _ => g3, ?_⟩
        have SF := methodsDiffer_any w3 x.k sj (clsAt Cs i) (clsAt Cs j) (HXC.out w3 g3) cj
        unfold ksV
        refine late_all [5] (by kernel_rfl) (by simp) (fun jj hjj => ?_)
        obtain rfl := one_of hjj
        refine late_call (f := 89) rfl rfl (by kernel_rfl) (R := fun v w' => v = .bool (differ (clsAt Cs i) (clsAt Cs j)) ∧ Fr no w3 w') (SF.mono (fun e w' ⟨h1, h2⟩ => ⟨_, h1, rfl, h2⟩)) (fun v w4 hv => ?_)
        obtain ⟨rfl, f4⟩ := hv
        have g4 : Fr no wr w4 := g3.new f4 (fun _ _ f => f)
        refine ⟨(fun h => Bool.noConfusion (show true = false from h)), ?_⟩
        refine late_done (by kernel_rfl) ?_
        clear SF NA cj f3 f4 g3
        cases hb : differ (clsAt Cs i) (clsAt Cs j) with
        | true =>
         have HT : Hid ((above Cs A i).any (differ (clsAt Cs i)) = true) := by
          show _ = _
          rw [HAB.out]
          exact List.any_eq_true.2 ⟨_, List.mem_map_of_mem (List.mem_of_getElem? HJ.out.1), hb⟩
         clear hb
         go_wp2_with fail
         go_ret
         rw [HN0.out, if_neg (by rw [HTA.out]; simp), if_pos HT.out]
         exact ⟨rfl, HG.out.new (HJ.out.2.1.new g4 (fun _ _ f => f)) (fun _ _ f => f)⟩
        | false =>
         have HT : Hid ((((U.drop 1).take (k + 1)).any fun j => differ (clsAt Cs i) (clsAt Cs j)) = false) := by
          show _ = _
          rw [take_next _ k j HJ.out.1, List.any_append, HA.out]
          simp only [List.any_cons, List.any_nil, Bool.or_false, Bool.false_or]
          exact hb
         clear hb
         go_wp2_with fail
         go_roundw
         case rel => exact ⟨k + 1, by go_num, by omega, HJ.out.2.2.new g4 (fun _ _ f => f), HT.out⟩
         case measure => simp [intOf]; omega
      · have hkn : nl = k := by omega
        subst hkn
        have HT : Hid ((above Cs A i).any (differ (clsAt Cs i)) = false) := by
         have := HA.out
         rw [← HNL.out, List.take_length] at this
         show _ = _
         rw [HAB.out, List.any_map]
         exact this
        go_wp2_with fail
        go_ret
        rw [HN0.out, if_neg (by rw [HTA.out]; simp), if_neg (by rw [HT.out]; simp)]
        exact ⟨rfl, HG.out.new (HG2.out.new hw (fun _ _ f => f)) (fun _ _ f => f)⟩
end Go.Proofs.YtalgjpmaafooeaaGreatDoor
