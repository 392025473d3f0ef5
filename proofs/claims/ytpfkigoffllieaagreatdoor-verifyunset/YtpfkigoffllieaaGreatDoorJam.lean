/- Whether all classes are there that a class's types name: the program's call. -/
import Derived.Test.YtpfkigoffllieaaGreatDoorJal
import Derived.Test.YtpfkigoffllieaaGreatDoorJaf
import Derived.Test.YtpfkigoffllieaaGreatDoorJah
import Derived.BigRegion
namespace Go.Proofs.YtpfkigoffllieaaGreatDoor
open Go.ChangeShapes Go.WideShapes Go.ChangeAt Go.RowKit
open H (ky Owns MapOf ix up nameAt anc Fine obj fault)

theorem hasStrange_any (w : World) (p : Nat) (Cs : List Cl) (A : List Nat) (h : Prg w p Cs A) (v : Value) (l : List Ty) (hv : SlG elTy w v l) (hf : ∀ t ∈ l, fitS t.c) :
    Calls Tryz.prog 115 #[v, .func (.func 114) #[.pointer (some ⟨p, 0, none⟩)] #[]] w fun e w' => e = .returned (.bool (l.any (strange (namesOf Cs)))) ∧ Fr no w w' := by
  have := hasTy_any w v l hv p (fun i => match l[i]? with | some t => strange (namesOf Cs) t | none => false) (fun wr k t f ht => by
    have := isStrange_any wr p Cs A (h.keep f) t (hf t (List.mem_of_getElem? ht))
    simp only [ht]
    exact this)
  rw [anyN_list (strange (namesOf Cs)) l _ (fun i t ht => by simp only [ht])] at this
  exact this

set_option maxRecDepth 100000 in
set_option maxHeartbeats 2000000 in
theorem hasClasses_any (w : World) (p : Nat) (Cs : List Cl) (A : List Nat) (h : Prg w p Cs A) (s : Ks) (c : Cl) (hc : ClAt w s c) (hfit : FitC c) :
    Calls Tryz.prog 90 #[.pointer (some ⟨p, 0, none⟩), .agg #[.string s.name, .string s.super, .slice s.p.a s.p.n s.p.c, .slice s.f.a s.f.n s.f.c, .slice s.m.a s.m.n s.m.c]] w fun e w' => e = .returned (.bool (!noCls (namesOf Cs) c)) ∧ Fr no w w' := by
  obtain ⟨n1, u1, p1, ⟨fa, fn, fc⟩, ⟨ma, mn, mc⟩⟩ := s
  obtain ⟨ls, hl, ha⟩ := hc.m
  have hfn : fn = c.fields.length := by
    obtain ⟨q, c, e⟩ := hc.f.form
    simp only [Value.slice.injEq] at e
    exact e.2.1
  have hmn : mn = c.methods.length := by
    obtain ⟨q, c, e⟩ := hl.form
    simp only [Value.slice.injEq] at e
    rw [← ha.1]
    exact e.2.1
  subst hfn hmn
  simp only [] at hl ⊢
  have G0 : Fr no w (w.alloc (.cells #[.string n1, .string u1, .slice p1.a p1.n p1.c, .slice fa c.fields.length fc, .slice ma c.methods.length mc] 68)) := (Fr.refl no w).alloc _ _
  have A0 : (w.alloc (.cells #[.string n1, .string u1, .slice p1.a p1.n p1.c, .slice fa c.fields.length fc, .slice ma c.methods.length mc] 68)).heap[w.heap.size]? = some (.cells #[.string n1, .string u1, .slice p1.a p1.n p1.c, .slice fa c.fields.length fc, .slice ma c.methods.length mc] 68 (0, 0)) := heap_alloc_new w _
  have HF1 : Hid (SlG elFd (w.alloc (.cells #[.string n1, .string u1, .slice p1.a p1.n p1.c, .slice fa c.fields.length fc, .slice ma c.methods.length mc] 68)) (.slice fa c.fields.length fc) c.fields) := hc.f.kept G0
  have HF2 : Hid (SlG elMs (w.alloc (.cells #[.string n1, .string u1, .slice p1.a p1.n p1.c, .slice fa c.fields.length fc, .slice ma c.methods.length mc] 68)) (.slice ma c.methods.length mc) ls ∧ AtAll (w.alloc (.cells #[.string n1, .string u1, .slice p1.a p1.n p1.c, .slice fa c.fields.length fc, .slice ma c.methods.length mc] 68)) ls c.methods) := ⟨hl.kept G0, ha.kept G0⟩
  have hle : c.fields.length ≤ fc ∧ fc ≤ 9223372036854775807 ∧ c.methods.length ≤ mc ∧ mc ≤ 9223372036854775807 := by
    obtain ⟨ad, cp, hv, hcap, hmx, -⟩ := HF1.out
    obtain ⟨ad', cp', hv', hcap', hmx', -⟩ := HF2.out.1
    simp only [Value.slice.injEq] at hv hv'
    unfold maxLen at hmx hmx'
    omega
  have HPG : Hid (∀ w', Fr no (w.alloc (.cells #[.string n1, .string u1, .slice p1.a p1.n p1.c, .slice fa c.fields.length fc, .slice ma c.methods.length mc] 68)) w' → Prg w' p Cs A) := fun w' hf => (h.keep G0).keep hf
  have KB : Hid (∀ w', Fr no (w.alloc (.cells #[.string n1, .string u1, .slice p1.a p1.n p1.c, .slice fa c.fields.length fc, .slice ma c.methods.length mc] 68)) w' → w'.cell? ⟨w.heap.size, 4, none⟩ = some (.slice ma c.methods.length mc)) := fun w' hf => (box5 (hf.heap A0 (fun f => f))).2.2.2.2
  obtain ⟨-, -, -, a3, -⟩ := box5 A0
  have HG : Hid (_) := G0
  have HFit : Hid (FitC c) := hfit
  clear h hc G0 A0 hl ha hfit
  generalize hnl : c.fields.length = nf at *
  generalize hml : c.methods.length = nm at *
  generalize hW : w.alloc (.cells #[.string n1, .string u1, .slice p1.a p1.n p1.c, .slice fa nf fc, .slice ma nm mc] 68) = W at *
  go_enter Tryz.func90, Tryz.ntmps90
  go_wp2_with fail
  go_loopw [12] (fun i wr => ∃ (k : Nat), i = .int .i64 (k : Int) ∧ k ≤ nf ∧ Fr no W wr ∧ ((c.fields.take k).any fun f => strange (namesOf Cs) f.ty) = false) (fun i _ => nf - (intOf i).toNat)
  case atStart => exact ⟨0, rfl, by omega, Fr.refl _ _, by simp⟩
  case round =>
    obtain ⟨k, rfl, hk, hw, hall⟩ := hrel
    have HA : Hid (((c.fields.take k).any fun f => strange (namesOf Cs) f.ty) = false) := hall
    clear hall
    by_cases hlt : k < nf
    · have hki : (k : Int) < (nf : Int) := by omega
      obtain ⟨x, hx⟩ : ∃ x, c.fields[k]? = some x := ⟨_, List.getElem?_eq_getElem (by omega)⟩
      obtain ⟨ad, cp, hv, -, -, hit⟩ := HF1.out.kept hw
      simp only [Value.slice.injEq] at hv
      obtain ⟨rfl, -, -⟩ := hv
      obtain ⟨b, off, rfl, hc⟩ := hit k x hx
      have c0 := hc 0 _ rfl
      have c1 := hc 1 _ rfl
      have c2 := hc 2 _ rfl
      have c3 := hc 3 _ rfl
      simp only [elFd, Nat.add_zero] at c0 c1 c2 c3
      have G1 : Fr no wr (wr.alloc (.cells #[.string x.name, .int .i64 x.ty.k, .string x.ty.c, .bool x.vol] 100)) := (Fr.refl no wr).alloc _ _
      have E1 : (wr.alloc (.cells #[.string x.name, .int .i64 x.ty.k, .string x.ty.c, .bool x.vol] 100)).heap[wr.heap.size]? = some (.cells #[.string x.name, .int .i64 x.ty.k, .string x.ty.c, .bool x.vol] 100 (0, 0)) := heap_alloc_new wr _
      have g1 := hw.new G1 (fun _ _ f => f)
      have e1 := cell_at (o := 1) E1
      have e2 := cell_at (o := 2) E1
      simp only [List.getElem?_toArray, List.getElem?_cons_zero, List.getElem?_cons_succ] at e1 e2
      have AS := isStrange_any _ p Cs A (HPG.out _ g1) x.ty (HFit.out.fields x (List.mem_of_getElem? hx)).2
      have HX : Hid (c.fields[k]? = some x ∧ Fr no W (wr.alloc (.cells #[.string x.name, .int .i64 x.ty.k, .string x.ty.c, .bool x.vol] 100))) := ⟨hx, g1⟩
      clear hit hc hx G1 E1 g1 hw
      cases hb : strange (namesOf Cs) x.ty with
      | true =>
        rw [hb] at AS
        have HT : Hid ((!noCls (namesOf Cs) c) = false) := by
          have : c.fields.any (fun f => strange (namesOf Cs) f.ty) = true := List.any_eq_true.2 ⟨x, List.mem_of_getElem? HX.out.1, hb⟩
          show _ = _
          unfold noCls
          rw [this]
          rfl
        clear hb
        go_wp2_with fail
        refine AS.mono ?_
        rintro e w2 ⟨rfl, f2⟩
        go_wp2_with fail
        go_ret
        rw [HT.out]
        exact ⟨rfl, HG.out.new (HX.out.2.new f2 (fun _ _ f => f)) (fun _ _ f => f)⟩
      | false =>
        rw [hb] at AS
        have HT : Hid (((c.fields.take (k + 1)).any fun f => strange (namesOf Cs) f.ty) = false) := by
          show _ = _
          rw [take_next _ k x HX.out.1, List.any_append, HA.out]
          simp only [List.any_cons, List.any_nil, Bool.or_false, Bool.false_or]
          exact hb
        clear hb
        go_wp2_with fail
        refine AS.mono ?_
        rintro e w2 ⟨rfl, f2⟩
        go_wp2_with fail
        go_roundw
        case rel => exact ⟨k + 1, by go_num, by omega, HX.out.2.new f2 (fun _ _ f => f), HT.out⟩
        case measure => simp [intOf]; omega
    · have hkn : k = nf := by omega
      subst hkn
      have HFA : Hid ((c.fields.any fun f => strange (namesOf Cs) f.ty) = false) := by
        have := HA.out
        rw [← hnl, List.take_length] at this
        exact this
      have a4 := KB.out wr hw
      have HW1 : Hid (Fr no W wr) := hw
      clear hw
      go_wp2_with fail
      go_loopw [24] (fun i wr2 => ∃ (j : Nat), i = .int .i64 (j : Int) ∧ j ≤ nm ∧ Fr no W wr2 ∧ ((c.methods.take j).any fun m => strange (namesOf Cs) m.ret || m.params.any (strange (namesOf Cs))) = false) (fun i _ => nm - (intOf i).toNat)
      case atStart => exact ⟨0, rfl, by omega, HW1.out, by simp⟩
      case round =>
        obtain ⟨j, rfl, hj, hw, hall⟩ := hrel
        have HA2 : Hid (((c.methods.take j).any fun m => strange (namesOf Cs) m.ret || m.params.any (strange (namesOf Cs))) = false) := hall
        clear hall
        by_cases hlt2 : j < nm
        · have hji : (j : Int) < (nm : Int) := by omega
          obtain ⟨m, hm⟩ : ∃ m, c.methods[j]? = some m := ⟨_, List.getElem?_eq_getElem (by omega)⟩
          obtain ⟨x, hx⟩ : ∃ x, ls[j]? = some x := ⟨_, List.getElem?_eq_getElem (by rw [HF2.out.2.1]; omega)⟩
          obtain ⟨ad, cp, hv, -, -, hit⟩ := HF2.out.1.kept hw
          simp only [Value.slice.injEq] at hv
          obtain ⟨rfl, -, -⟩ := hv
          obtain ⟨b, off, rfl, hc⟩ := hit j x hx
          have c0 := hc 0 _ rfl
          have c1 := hc 1 _ rfl
          have c2 := hc 2 _ rfl
          have c3 := hc 3 _ rfl
          have c4 := hc 4 _ rfl
          have c5 := hc 5 _ rfl
          have c6 := hc 6 _ rfl
          have c7 := hc 7 _ rfl
          simp only [elMs, Nat.add_zero] at c0 c1 c2 c3 c4 c5 c6 c7
          have G1 : Fr no wr (wr.alloc (.cells #[.string x.name, .slice x.p.a x.p.n x.p.c, .int .i64 x.ret.k, .string x.ret.c, .int .i64 x.lo, .int .i64 x.st, .slice x.c.a x.c.n x.c.c, .slice x.h.a x.h.n x.h.c] 64)) := (Fr.refl no wr).alloc _ _
          have E1 : (wr.alloc (.cells #[.string x.name, .slice x.p.a x.p.n x.p.c, .int .i64 x.ret.k, .string x.ret.c, .int .i64 x.lo, .int .i64 x.st, .slice x.c.a x.c.n x.c.c, .slice x.h.a x.h.n x.h.c] 64)).heap[wr.heap.size]? = some (.cells #[.string x.name, .slice x.p.a x.p.n x.p.c, .int .i64 x.ret.k, .string x.ret.c, .int .i64 x.lo, .int .i64 x.st, .slice x.c.a x.c.n x.c.c, .slice x.h.a x.h.n x.h.c] 64 (0, 0)) := heap_alloc_new wr _
          have g1 := hw.new G1 (fun _ _ f => f)
          obtain ⟨e0, e1, e2, e3, e4, e5, e6, e7⟩ := box8 E1
          have mx := (HF2.out.2.2 j x m hx hm).kept g1
          have fm := HFit.out.methods m (List.mem_of_getElem? hm)
          have hret : x.ret = m.ret := mx.ret
          have AS := isStrange_any _ p Cs A (HPG.out _ g1) x.ret (by rw [hret]; exact fm.ret)
          have hsr : strange (namesOf Cs) x.ret = strange (namesOf Cs) m.ret := by rw [hret]
          rw [hsr] at AS
          have BS : Hid (∀ w', Fr no (wr.alloc (.cells #[.string x.name, .slice x.p.a x.p.n x.p.c, .int .i64 x.ret.k, .string x.ret.c, .int .i64 x.lo, .int .i64 x.st, .slice x.c.a x.c.n x.c.c, .slice x.h.a x.h.n x.h.c] 64)) w' → Calls Tryz.prog 115 #[.slice x.p.a x.p.n x.p.c, .func (.func 114) #[.pointer (some ⟨p, 0, none⟩)] #[]] w' fun e w2 => e = .returned (.bool (m.params.any (strange (namesOf Cs)))) ∧ Fr no w' w2) := fun w' hf => hasStrange_any w' p Cs A (HPG.out _ (g1.new hf (fun _ _ f => f))) _ m.params (mx.p.kept hf) fm.params
          have HX : Hid (c.methods[j]? = some m ∧ Fr no W (wr.alloc (.cells #[.string x.name, .slice x.p.a x.p.n x.p.c, .int .i64 x.ret.k, .string x.ret.c, .int .i64 x.lo, .int .i64 x.st, .slice x.c.a x.c.n x.c.c, .slice x.h.a x.h.n x.h.c] 64)) ∧ (wr.alloc (.cells #[.string x.name, .slice x.p.a x.p.n x.p.c, .int .i64 x.ret.k, .string x.ret.c, .int .i64 x.lo, .int .i64 x.st, .slice x.c.a x.c.n x.c.c, .slice x.h.a x.h.n x.h.c] 64)).heap[wr.heap.size]? = some (.cells #[.string x.name, .slice x.p.a x.p.n x.p.c, .int .i64 x.ret.k, .string x.ret.c, .int .i64 x.lo, .int .i64 x.st, .slice x.c.a x.c.n x.c.c, .slice x.h.a x.h.n x.h.c] 64 (0, 0))) := ⟨hm, g1, E1⟩
          clear hit hc hx G1 E1 g1 hw mx hm hret hsr
          cases hb : strange (namesOf Cs) m.ret with
          | true =>
            rw [hb] at AS
            have HT : Hid ((!noCls (namesOf Cs) c) = false) := by
              have : (c.methods.any fun m => strange (namesOf Cs) m.ret || m.params.any (strange (namesOf Cs))) = true := List.any_eq_true.2 ⟨m, List.mem_of_getElem? HX.out.1, by rw [hb]; rfl⟩
              show _ = _
              unfold noCls
              rw [this]
              simp
            clear hb
            go_wp2_with fail
            refine AS.mono ?_
            rintro e w2 ⟨rfl, f2⟩
            go_wp2_with fail
            go_ret
            rw [HT.out]
            exact ⟨rfl, HG.out.new (HX.out.2.1.new f2 (fun _ _ f => f)) (fun _ _ f => f)⟩
          | false =>
            rw [hb] at AS
            cases hb2 : m.params.any (strange (namesOf Cs)) with
            | true =>
              rw [hb2] at BS
              have HT : Hid ((!noCls (namesOf Cs) c) = false) := by
                have : (c.methods.any fun m => strange (namesOf Cs) m.ret || m.params.any (strange (namesOf Cs))) = true := List.any_eq_true.2 ⟨m, List.mem_of_getElem? HX.out.1, by rw [hb2]; simp⟩
                show _ = _
                unfold noCls
                rw [this]
                simp
              clear hb hb2
              go_wp2_with fail
              refine AS.mono ?_
              rintro e w2 ⟨rfl, f2⟩
              have e1' := f2.cell e1 (fun f => f)
              go_wp2_with fail
              refine (BS.out w2 f2).mono ?_
              rintro e w3 ⟨rfl, f3⟩
              go_wp2_with fail
              go_ret
              rw [HT.out]
              exact ⟨rfl, HG.out.new ((HX.out.2.1.new f2 (fun _ _ f => f)).new f3 (fun _ _ f => f)) (fun _ _ f => f)⟩
            | false =>
              rw [hb2] at BS
              have HT : Hid (((c.methods.take (j + 1)).any fun m => strange (namesOf Cs) m.ret || m.params.any (strange (namesOf Cs))) = false) := by
                show _ = _
                rw [take_next _ j m HX.out.1, List.any_append, HA2.out]
                simp only [List.any_cons, List.any_nil, Bool.or_false, Bool.false_or]
                rw [hb, hb2]
                rfl
              clear hb hb2
              go_wp2_with fail
              refine AS.mono ?_
              rintro e w2 ⟨rfl, f2⟩
              have e1' := f2.cell e1 (fun f => f)
              go_wp2_with fail
              refine (BS.out w2 f2).mono ?_
              rintro e w3 ⟨rfl, f3⟩
              go_wp2_with fail
              go_roundw
              case rel => exact ⟨j + 1, by go_num, by omega, (HX.out.2.1.new f2 (fun _ _ f => f)).new f3 (fun _ _ f => f), HT.out⟩
              case measure => simp [intOf]; omega
        · have hjn : j = nm := by omega
          subst hjn
          have HT : Hid ((!noCls (namesOf Cs) c) = true) := by
            have := HA2.out
            rw [← hml, List.take_length] at this
            show _ = _
            unfold noCls
            rw [HFA.out, this]
            rfl
          go_wp2_with fail
          go_ret
          rw [HT.out]
          exact ⟨rfl, HG.out.new hw (fun _ _ f => f)⟩
end Go.Proofs.YtpfkigoffllieaaGreatDoor

/- Whether two methods have the same types. -/
namespace Go.Proofs.YtpfkigoffllieaaGreatDoor
open Go.ChangeShapes Go.WideShapes Go.ChangeAt Go.RowKit

theorem ty_eq (a b : Ty) (w : World) : (binOp .eql 55 (.agg #[.int .i64 a.k, .string a.c]) (.agg #[.int .i64 b.k, .string b.c])).run Tryz.prog w = .ok (.bool (decide (a = b))) w := by
  obtain ⟨ka, ca⟩ := a
  obtain ⟨kb, cb⟩ := b
  by_cases h1 : ka = kb
  · subst h1
    by_cases h2 : ca = cb
    · subst h2
      simp [go_sem]
    · have := H.streq ca cb
      rw [decide_eq_false h2] at this
      simp [go_sem, h2, this]
  · simp [go_sem, h1]
theorem ty_ne (a b : Ty) (w : World) : (binOp .neq 55 (.agg #[.int .i64 a.k, .string a.c]) (.agg #[.int .i64 b.k, .string b.c])).run Tryz.prog w = .ok (.bool (!decide (a = b))) w := by
  obtain ⟨ka, ca⟩ := a
  obtain ⟨kb, cb⟩ := b
  by_cases h1 : ka = kb
  · subst h1
    by_cases h2 : ca = cb
    · subst h2
      simp [go_sem]
    · have := H.streq ca cb
      rw [decide_eq_false h2] at this
      simp [go_sem, h2, this]
  · simp [go_sem, h1]

set_option maxRecDepth 100000 in
set_option maxHeartbeats 1000000 in
theorem equal_any (w : World) (v1 v2 : Value) (l1 l2 : List Ty) (h1 : SlG elTy w v1 l1) (h2 : SlG elTy w v2 l2) :
    Calls Tryz.prog 136 #[v1, v2] w fun e w' => e = .returned (.bool (decide (l1 = l2))) ∧ Fr no w w' := by
  obtain ⟨a1, c1, rfl, hcap1, m1, i1⟩ := h1
  obtain ⟨a2, c2, rfl, hcap2, m2, i2⟩ := h2
  unfold maxLen at m1 m2
  have HI1 : Hid (∀ (i : Nat) (x : Ty), l1[i]? = some x → ∃ b off, a1 = some ⟨b, off, none⟩ ∧ ∀ (j : Nat) (u : Value), (elTy.f x)[j]? = some u → w.cell? ⟨b, off + i * 2 + j, none⟩ = some u) := i1
  have HI2 : Hid (∀ (i : Nat) (x : Ty), l2[i]? = some x → ∃ b off, a2 = some ⟨b, off, none⟩ ∧ ∀ (j : Nat) (u : Value), (elTy.f x)[j]? = some u → w.cell? ⟨b, off + i * 2 + j, none⟩ = some u) := i2
  clear i1 i2
  by_cases hl : l1.length = l2.length
  · rw [← hl]
    have HL : Hid (l1.length = l2.length) := hl
    clear hl
    go_enter Tryz.func136, Tryz.ntmps136
    go_wp2_with fail
    go_loopw [13] (fun i wr => ∃ (k : Nat), i = .int .i64 (k : Int) ∧ k ≤ l1.length ∧ Fr no w wr ∧ l1.take k = l2.take k) (fun i _ => l1.length - (intOf i).toNat)
    case atStart => exact ⟨0, rfl, by omega, Fr.refl _ _, by simp⟩
    case round =>
      obtain ⟨k, rfl, hk, hw, hall⟩ := hrel
      have HA : Hid (l1.take k = l2.take k) := hall
      clear hall
      by_cases hlt : k < l1.length
      · obtain ⟨x, hx⟩ : ∃ x, l1[k]? = some x := ⟨_, List.getElem?_eq_getElem hlt⟩
        obtain ⟨y, hy⟩ : ∃ y, l2[k]? = some y := ⟨_, List.getElem?_eq_getElem (by have := HL.out; omega)⟩
        obtain ⟨b, off, rfl, hc⟩ := HI1.out k x hx
        obtain ⟨b', off', rfl, hc'⟩ := HI2.out k y hy
        have hlt' : (k : Int) < (l1.length : Int) := by omega
        have e0 : wr.cell? ⟨b, off + k * 2, none⟩ = some (.int .i64 x.k) := hw.cell (hc 0 _ rfl) (fun f => f)
        have e1 : wr.cell? ⟨b, off + k * 2 + 1, none⟩ = some (.string x.c) := hw.cell (hc 1 _ rfl) (fun f => f)
        have f0 : wr.cell? ⟨b', off' + k * 2, none⟩ = some (.int .i64 y.k) := hw.cell (hc' 0 _ rfl) (fun f => f)
        have f1 : wr.cell? ⟨b', off' + k * 2 + 1, none⟩ = some (.string y.c) := hw.cell (hc' 1 _ rfl) (fun f => f)
        have hne := ty_ne x y
        have HW : Hid (Fr no w wr) := hw
        have HX : Hid (l1[k]? = some x ∧ l2[k]? = some y) := ⟨hx, hy⟩
        clear hc hc' hw hx hy
        by_cases hn : x = y
        · rw [decide_eq_true hn] at hne
          have HT : Hid (l1.take (k + 1) = l2.take (k + 1)) := by show _ = _; rw [take_next l1 k x HX.out.1, take_next l2 k y HX.out.2, HA.out, hn]
          clear hn
          go_wp2_with fail
          go_region
          go_wp2_with fail
          go_roundw
          case rel => exact ⟨k + 1, by go_num, by omega, HW.out.drew, HT.out⟩
          case measure => simp [intOf]; omega
        · rw [decide_eq_false hn] at hne
          have HT : Hid (decide (l1 = l2) = false) := by
            show _ = _
            refine decide_eq_false (fun e => hn ?_)
            have h1 := HX.out.1
            rw [e, HX.out.2] at h1
            simpa using h1.symm
          clear hn
          go_wp2_with fail
          go_region
          go_wp2_with fail
          go_ret
          rw [HT.out]
          exact ⟨rfl, HW.out.drew⟩
      · have hkl : k = l1.length := by omega
        subst hkl
        have HT : Hid (decide (l1 = l2) = true) := by
          show _ = _
          refine decide_eq_true ?_
          have := HA.out
          rw [List.take_length, HL.out, List.take_length] at this
          exact this
        go_wp2_with fail
        go_ret
        rw [HT.out]
        exact ⟨rfl, hw⟩
  · have HT : Hid (decide (l1 = l2) = false) := decide_eq_false (fun e => hl (by rw [e]))
    have hne : ((l1.length : Int) == (l2.length : Int)) = false := by simp; omega
    go_enter Tryz.func136, Tryz.ntmps136
    go_wp2_with fail
    go_ret
    rw [HT.out]
    exact ⟨rfl, Fr.refl _ _⟩
end Go.Proofs.YtpfkigoffllieaaGreatDoor

/- What two classes have of one name. -/
namespace Go.Proofs.YtpfkigoffllieaaGreatDoor
open Go.ChangeShapes Go.WideShapes Go.ChangeAt Go.RowKit

set_option maxRecDepth 100000 in
set_option maxHeartbeats 1000000 in
theorem sameTypes_any (w : World) (s1 s2 : Ms) (m1 m2 : Mt) (h1 : MtAt w s1 m1) (h2 : MtAt w s2 m2) :
    Calls Tryz.prog 118 #[.agg #[.string s1.name, .slice s1.p.a s1.p.n s1.p.c, .int .i64 s1.ret.k, .string s1.ret.c, .int .i64 s1.lo, .int .i64 s1.st, .slice s1.c.a s1.c.n s1.c.c, .slice s1.h.a s1.h.n s1.h.c], .agg #[.string s2.name, .slice s2.p.a s2.p.n s2.p.c, .int .i64 s2.ret.k, .string s2.ret.c, .int .i64 s2.lo, .int .i64 s2.st, .slice s2.c.a s2.c.n s2.c.c, .slice s2.h.a s2.h.n s2.h.c]] w fun e w' => e = .returned (.bool (sameT m1 m2)) ∧ Fr no w w' := by
  have G0 : Fr no w ((w.alloc (.cells #[.string s1.name, .slice s1.p.a s1.p.n s1.p.c, .int .i64 s1.ret.k, .string s1.ret.c, .int .i64 s1.lo, .int .i64 s1.st, .slice s1.c.a s1.c.n s1.c.c, .slice s1.h.a s1.h.n s1.h.c] 64)).alloc (.cells #[.string s2.name, .slice s2.p.a s2.p.n s2.p.c, .int .i64 s2.ret.k, .string s2.ret.c, .int .i64 s2.lo, .int .i64 s2.st, .slice s2.c.a s2.c.n s2.c.c, .slice s2.h.a s2.h.n s2.h.c] 64)) := ((Fr.refl no w).alloc _ _).alloc _ _
  have A0 : ((w.alloc (.cells #[.string s1.name, .slice s1.p.a s1.p.n s1.p.c, .int .i64 s1.ret.k, .string s1.ret.c, .int .i64 s1.lo, .int .i64 s1.st, .slice s1.c.a s1.c.n s1.c.c, .slice s1.h.a s1.h.n s1.h.c] 64)).alloc (.cells #[.string s2.name, .slice s2.p.a s2.p.n s2.p.c, .int .i64 s2.ret.k, .string s2.ret.c, .int .i64 s2.lo, .int .i64 s2.st, .slice s2.c.a s2.c.n s2.c.c, .slice s2.h.a s2.h.n s2.h.c] 64)).heap[w.heap.size]? = some (.cells #[.string s1.name, .slice s1.p.a s1.p.n s1.p.c, .int .i64 s1.ret.k, .string s1.ret.c, .int .i64 s1.lo, .int .i64 s1.st, .slice s1.c.a s1.c.n s1.c.c, .slice s1.h.a s1.h.n s1.h.c] 64 (0, 0)) := (Below.heap_alloc _ _ _ (by simp)).trans (heap_alloc_new w _)
  have B0 : ((w.alloc (.cells #[.string s1.name, .slice s1.p.a s1.p.n s1.p.c, .int .i64 s1.ret.k, .string s1.ret.c, .int .i64 s1.lo, .int .i64 s1.st, .slice s1.c.a s1.c.n s1.c.c, .slice s1.h.a s1.h.n s1.h.c] 64)).alloc (.cells #[.string s2.name, .slice s2.p.a s2.p.n s2.p.c, .int .i64 s2.ret.k, .string s2.ret.c, .int .i64 s2.lo, .int .i64 s2.st, .slice s2.c.a s2.c.n s2.c.c, .slice s2.h.a s2.h.n s2.h.c] 64)).heap[w.heap.size + 1]? = some (.cells #[.string s2.name, .slice s2.p.a s2.p.n s2.p.c, .int .i64 s2.ret.k, .string s2.ret.c, .int .i64 s2.lo, .int .i64 s2.st, .slice s2.c.a s2.c.n s2.c.c, .slice s2.h.a s2.h.n s2.h.c] 64 (0, 0)) := by
    have : (w.alloc (.cells #[.string s1.name, .slice s1.p.a s1.p.n s1.p.c, .int .i64 s1.ret.k, .string s1.ret.c, .int .i64 s1.lo, .int .i64 s1.st, .slice s1.c.a s1.c.n s1.c.c, .slice s1.h.a s1.h.n s1.h.c] 64)).heap.size = w.heap.size + 1 := by simp
    rw [← this]
    exact heap_alloc_new _ _
  have EQ := equal_any _ _ _ _ _ (h1.p.kept G0) (h2.p.kept G0)
  have hte := ty_eq s1.ret s2.ret
  have e1 : s1.ret = m1.ret := h1.ret
  have e2 : s2.ret = m2.ret := h2.ret
  obtain ⟨a0, a1, a2, a3, a4, a5, a6, a7⟩ := box8 A0
  obtain ⟨b0, b1, b2, b3, b4, b5, b6, b7⟩ := box8 B0
  have HG : Hid (_) := G0
  clear h1 h2 G0 A0 B0
  generalize hW : (w.alloc (.cells #[.string s1.name, .slice s1.p.a s1.p.n s1.p.c, .int .i64 s1.ret.k, .string s1.ret.c, .int .i64 s1.lo, .int .i64 s1.st, .slice s1.c.a s1.c.n s1.c.c, .slice s1.h.a s1.h.n s1.h.c] 64)).alloc (.cells #[.string s2.name, .slice s2.p.a s2.p.n s2.p.c, .int .i64 s2.ret.k, .string s2.ret.c, .int .i64 s2.lo, .int .i64 s2.st, .slice s2.c.a s2.c.n s2.c.c, .slice s2.h.a s2.h.n s2.h.c] 64) = W at *
  by_cases hr : m1.ret = m2.ret
  · have HN : Hid (sameT m1 m2 = decide (m1.params = m2.params)) := by show _ = _; unfold sameT; rw [decide_eq_true hr]; rfl
    rw [decide_eq_true (by rw [e1, e2]; exact hr)] at hte
    generalize hd : decide (m1.params = m2.params) = d at *
    clear hr e1 e2 hd
    go_enter Tryz.func118, Tryz.ntmps118
    go_wp2_with fail
    refine EQ.mono ?_
    rintro e w1 ⟨rfl, f1⟩
    go_wp2_with fail
    go_ret
    rw [HN.out]
    exact ⟨rfl, HG.out.new f1 (fun _ _ f => f)⟩
  · have HN : Hid (sameT m1 m2 = false) := by show _ = _; unfold sameT; rw [decide_eq_false hr]; rfl
    rw [decide_eq_false (by rw [e1, e2]; exact hr)] at hte
    clear hr e1 e2
    go_enter Tryz.func118, Tryz.ntmps118
    go_wp2_with fail
    go_ret
    rw [HN.out]
    exact ⟨rfl, HG.out⟩

set_option maxRecDepth 100000 in
set_option maxHeartbeats 1000000 in
theorem differ1_any (w : World) (q : Nat) (y : Ms) (my : Mt) (hq : BoxMs w q y) (hy : MtAt w y my) (x : Ms) (mx : Mt) (hx : MtAt w x mx) :
    Calls Tryz.prog 117 #[.agg #[.string x.name, .slice x.p.a x.p.n x.p.c, .int .i64 x.ret.k, .string x.ret.c, .int .i64 x.lo, .int .i64 x.st, .slice x.c.a x.c.n x.c.c, .slice x.h.a x.h.n x.h.c], .pointer (some ⟨q, 0, none⟩)] w fun e w' => e = .returned (.bool (decide (my.name = mx.name) && !sameT my mx)) ∧ Fr no w w' := by
  have G0 : Fr no w (w.alloc (.cells #[.string x.name, .slice x.p.a x.p.n x.p.c, .int .i64 x.ret.k, .string x.ret.c, .int .i64 x.lo, .int .i64 x.st, .slice x.c.a x.c.n x.c.c, .slice x.h.a x.h.n x.h.c] 64)) := (Fr.refl no w).alloc _ _
  have E0 : (w.alloc (.cells #[.string x.name, .slice x.p.a x.p.n x.p.c, .int .i64 x.ret.k, .string x.ret.c, .int .i64 x.lo, .int .i64 x.st, .slice x.c.a x.c.n x.c.c, .slice x.h.a x.h.n x.h.c] 64)).heap[w.heap.size]? = some (.cells #[.string x.name, .slice x.p.a x.p.n x.p.c, .int .i64 x.ret.k, .string x.ret.c, .int .i64 x.lo, .int .i64 x.st, .slice x.c.a x.c.n x.c.c, .slice x.h.a x.h.n x.h.c] 64 (0, 0)) := heap_alloc_new w _
  have Q0 := hq.kept G0
  have ST := sameTypes_any _ y x my mx (hy.kept G0) (hx.kept G0)
  have hs := H.streq y.name x.name
  obtain ⟨a0, a1, a2, a3, a4, a5, a6, a7⟩ := box8 E0
  obtain ⟨b0, b1, b2, b3, b4, b5, b6, b7⟩ := box8 Q0
  have hne : ¬ w.heap.size = q := fun e => by
    have := lt_of_heap hq
    omega
  have n1 : y.name = my.name := hy.name
  have n2 : x.name = mx.name := hx.name
  have HG : Hid (_) := G0
  clear hq hy hx G0 E0 Q0
  generalize hW : w.alloc (.cells #[.string x.name, .slice x.p.a x.p.n x.p.c, .int .i64 x.ret.k, .string x.ret.c, .int .i64 x.lo, .int .i64 x.st, .slice x.c.a x.c.n x.c.c, .slice x.h.a x.h.n x.h.c] 64) = W at *
  by_cases hn : my.name = mx.name
  · rw [decide_eq_true hn]
    rw [decide_eq_true (by rw [n1, n2]; exact hn)] at hs
    generalize sameT my mx = b at *
    clear hn n1 n2
    go_enter Tryz.func117, Tryz.ntmps117
    go_wp2_with fail
    refine ST.mono ?_
    rintro e w1 ⟨rfl, f1⟩
    go_wp2_with fail
    go_ret
    exact ⟨by first | rfl | (simp; done), HG.out.new f1 (fun _ _ f => f)⟩
  · rw [decide_eq_false hn]
    rw [decide_eq_false (by rw [n1, n2]; exact hn)] at hs
    clear hn n1 n2 ST
    go_enter Tryz.func117, Tryz.ntmps117
    go_wp2_with fail
    go_ret
    exact ⟨by first | rfl | (simp; done), HG.out⟩

theorem share1_any (w : World) (q : Nat) (y : Fd) (hq : BoxFd w q y) (x : Fd) : Calls Tryz.prog 116 #[.agg #[.string x.name, .int .i64 x.ty.k, .string x.ty.c, .bool x.vol], .pointer (some ⟨q, 0, none⟩)] w fun e w' => e = .returned (.bool (decide (y.name = x.name))) ∧ Fr no w w' := by
  have G0 : Fr no w (w.alloc (.cells #[.string x.name, .int .i64 x.ty.k, .string x.ty.c, .bool x.vol] 100)) := (Fr.refl no w).alloc _ _
  have hq' : (w.alloc (.cells #[.string x.name, .int .i64 x.ty.k, .string x.ty.c, .bool x.vol] 100)).cell? ⟨q, 0, none⟩ = some (.string y.name) := by
    have := hq.kept G0
    unfold BoxFd at this
    simp [World.cell?, this]
  have hne : ¬ w.heap.size = q := fun e => by
    have := lt_of_heap hq
    omega
  have hs := H.streq y.name x.name
  have HG : Hid (_) := G0
  clear hq G0
  generalize decide (y.name = x.name) = d at *
  go_enter Tryz.func116, Tryz.ntmps116
  go_wp2_with fail
  go_ret
  exact ⟨by first | rfl | (simp [hs]; done), HG.out⟩

set_option maxRecDepth 100000 in
set_option maxHeartbeats 1000000 in
theorem shareField_any (w : World) (s1 s2 : Ks) (c1 c2 : Cl) (h1 : ClAt w s1 c1) (h2 : ClAt w s2 c2) :
    Calls Tryz.prog 91 #[.agg #[.string s1.name, .string s1.super, .slice s1.p.a s1.p.n s1.p.c, .slice s1.f.a s1.f.n s1.f.c, .slice s1.m.a s1.m.n s1.m.c], .agg #[.string s2.name, .string s2.super, .slice s2.p.a s2.p.n s2.p.c, .slice s2.f.a s2.f.n s2.f.c, .slice s2.m.a s2.m.n s2.m.c]] w fun e w' => e = .returned (.bool (shares c1 c2)) ∧ Fr no w w' := by
  obtain ⟨n1, u1, p1, ⟨fa, fn, fc⟩, m1⟩ := s1
  have hfn : fn = c1.fields.length := by
    obtain ⟨q, c, e⟩ := h1.f.form
    simp only [Value.slice.injEq] at e
    exact e.2.1
  subst hfn
  simp only []
  have G0 : Fr no w ((w.alloc (.cells #[.string n1, .string u1, .slice p1.a p1.n p1.c, .slice fa c1.fields.length fc, .slice m1.a m1.n m1.c] 68)).alloc (.cells #[.string s2.name, .string s2.super, .slice s2.p.a s2.p.n s2.p.c, .slice s2.f.a s2.f.n s2.f.c, .slice s2.m.a s2.m.n s2.m.c] 68)) := ((Fr.refl no w).alloc _ _).alloc _ _
  have A0 : ((w.alloc (.cells #[.string n1, .string u1, .slice p1.a p1.n p1.c, .slice fa c1.fields.length fc, .slice m1.a m1.n m1.c] 68)).alloc (.cells #[.string s2.name, .string s2.super, .slice s2.p.a s2.p.n s2.p.c, .slice s2.f.a s2.f.n s2.f.c, .slice s2.m.a s2.m.n s2.m.c] 68)).heap[w.heap.size]? = some (.cells #[.string n1, .string u1, .slice p1.a p1.n p1.c, .slice fa c1.fields.length fc, .slice m1.a m1.n m1.c] 68 (0, 0)) := (Below.heap_alloc _ _ _ (by simp)).trans (heap_alloc_new w _)
  have B0 : ((w.alloc (.cells #[.string n1, .string u1, .slice p1.a p1.n p1.c, .slice fa c1.fields.length fc, .slice m1.a m1.n m1.c] 68)).alloc (.cells #[.string s2.name, .string s2.super, .slice s2.p.a s2.p.n s2.p.c, .slice s2.f.a s2.f.n s2.f.c, .slice s2.m.a s2.m.n s2.m.c] 68)).heap[w.heap.size + 1]? = some (.cells #[.string s2.name, .string s2.super, .slice s2.p.a s2.p.n s2.p.c, .slice s2.f.a s2.f.n s2.f.c, .slice s2.m.a s2.m.n s2.m.c] 68 (0, 0)) := by
    have : (w.alloc (.cells #[.string n1, .string u1, .slice p1.a p1.n p1.c, .slice fa c1.fields.length fc, .slice m1.a m1.n m1.c] 68)).heap.size = w.heap.size + 1 := by simp
    rw [← this]
    exact heap_alloc_new _ _
  obtain ⟨-, -, -, a3, -⟩ := box5 A0
  have KB : Hid (∀ w', Fr no ((w.alloc (.cells #[.string n1, .string u1, .slice p1.a p1.n p1.c, .slice fa c1.fields.length fc, .slice m1.a m1.n m1.c] 68)).alloc (.cells #[.string s2.name, .string s2.super, .slice s2.p.a s2.p.n s2.p.c, .slice s2.f.a s2.f.n s2.f.c, .slice s2.m.a s2.m.n s2.m.c] 68)) w' → w'.cell? ⟨w.heap.size + 1, 3, none⟩ = some (.slice s2.f.a s2.f.n s2.f.c)) := fun w' hf => (box5 (hf.heap B0 (fun f => f))).2.2.2.1
  have HF1 : Hid (SlG elFd ((w.alloc (.cells #[.string n1, .string u1, .slice p1.a p1.n p1.c, .slice fa c1.fields.length fc, .slice m1.a m1.n m1.c] 68)).alloc (.cells #[.string s2.name, .string s2.super, .slice s2.p.a s2.p.n s2.p.c, .slice s2.f.a s2.f.n s2.f.c, .slice s2.m.a s2.m.n s2.m.c] 68)) (.slice fa c1.fields.length fc) c1.fields) := h1.f.kept G0
  have HF2 : Hid (SlG elFd ((w.alloc (.cells #[.string n1, .string u1, .slice p1.a p1.n p1.c, .slice fa c1.fields.length fc, .slice m1.a m1.n m1.c] 68)).alloc (.cells #[.string s2.name, .string s2.super, .slice s2.p.a s2.p.n s2.p.c, .slice s2.f.a s2.f.n s2.f.c, .slice s2.m.a s2.m.n s2.m.c] 68)) (.slice s2.f.a s2.f.n s2.f.c) c2.fields) := h2.f.kept G0
  have hle : c1.fields.length ≤ fc ∧ fc ≤ 9223372036854775807 := by
    obtain ⟨ad, cp, hv, hcap, hmx, -⟩ := HF1.out
    simp only [Value.slice.injEq] at hv
    unfold maxLen at hmx
    omega
  have HG : Hid (_) := G0
  clear h1 h2 G0 A0 B0
  generalize hnl : c1.fields.length = n at *
  generalize hW : ((w.alloc (.cells #[.string n1, .string u1, .slice p1.a p1.n p1.c, .slice fa n fc, .slice m1.a m1.n m1.c] 68)).alloc (.cells #[.string s2.name, .string s2.super, .slice s2.p.a s2.p.n s2.p.c, .slice s2.f.a s2.f.n s2.f.c, .slice s2.m.a s2.m.n s2.m.c] 68)) = W at *
  go_enter Tryz.func91, Tryz.ntmps91
  go_wp2_with fail
  go_loopw [10] (fun i wr => ∃ (k : Nat), i = .int .i64 (k : Int) ∧ k ≤ n ∧ Fr no W wr ∧ ((c1.fields.take k).any fun f => c2.fields.any fun g => decide (f.name = g.name)) = false) (fun i _ => n - (intOf i).toNat)
  case atStart => exact ⟨0, rfl, by omega, Fr.refl _ _, by simp⟩
  case round =>
    obtain ⟨k, rfl, hk, hw, hall⟩ := hrel
    have HA : Hid (((c1.fields.take k).any fun f => c2.fields.any fun g => decide (f.name = g.name)) = false) := hall
    clear hall
    by_cases hlt : k < n
    · have hki : (k : Int) < (n : Int) := by omega
      obtain ⟨x, hx⟩ : ∃ x, c1.fields[k]? = some x := ⟨_, List.getElem?_eq_getElem (by omega)⟩
      obtain ⟨ad, cp, hv, -, -, hit⟩ := HF1.out.kept hw
      simp only [Value.slice.injEq] at hv
      obtain ⟨rfl, -, -⟩ := hv
      obtain ⟨b, off, rfl, hc⟩ := hit k x hx
      have c0 := hc 0 _ rfl
      have c1' := hc 1 _ rfl
      have c2' := hc 2 _ rfl
      have c3 := hc 3 _ rfl
      simp only [elFd, Nat.add_zero] at c0 c1' c2' c3
      have G1 : Fr no wr (wr.alloc (.cells #[.string x.name, .int .i64 x.ty.k, .string x.ty.c, .bool x.vol] 100)) := (Fr.refl no wr).alloc _ _
      have E1 : BoxFd (wr.alloc (.cells #[.string x.name, .int .i64 x.ty.k, .string x.ty.c, .bool x.vol] 100)) wr.heap.size x := heap_alloc_new wr _
      have g1 := hw.new G1 (fun _ _ f => f)
      have kb := KB.out _ g1
      have AS := hasFd_any _ _ c2.fields (HF2.out.kept g1) wr.heap.size (fun i => match c2.fields[i]? with | some y => decide (x.name = y.name) | none => false) (fun w2 i y f2 hy => by
        have := share1_any w2 wr.heap.size x (E1.kept f2) y
        simp only [hy]
        exact this)
      rw [anyN_list (fun y => decide (x.name = y.name)) c2.fields _ (fun i y hy => by simp only [hy])] at AS
      have HX : Hid (c1.fields[k]? = some x ∧ Fr no W (wr.alloc (.cells #[.string x.name, .int .i64 x.ty.k, .string x.ty.c, .bool x.vol] 100))) := ⟨hx, g1⟩
      clear hit hc hx G1 E1 g1 hw
      cases hb : c2.fields.any (fun y => decide (x.name = y.name)) with
      | true =>
        rw [hb] at AS
        have HT : Hid (shares c1 c2 = true) := List.any_eq_true.2 ⟨x, List.mem_of_getElem? HX.out.1, hb⟩
        clear hb
        go_wp2_with fail
        refine AS.mono ?_
        rintro e w2 ⟨rfl, f2⟩
        go_wp2_with fail
        go_ret
        rw [HT.out]
        exact ⟨rfl, HG.out.new (HX.out.2.new f2 (fun _ _ f => f)) (fun _ _ f => f)⟩
      | false =>
        rw [hb] at AS
        have HT : Hid (((c1.fields.take (k + 1)).any fun f => c2.fields.any fun g => decide (f.name = g.name)) = false) := by
          show _ = _
          rw [take_next _ k x HX.out.1, List.any_append, HA.out]
          simp only [List.any_cons, List.any_nil, Bool.or_false, Bool.false_or]
          exact hb
        clear hb
        go_wp2_with fail
        refine AS.mono ?_
        rintro e w2 ⟨rfl, f2⟩
        go_wp2_with fail
        go_roundw
        case rel => exact ⟨k + 1, by go_num, by omega, HX.out.2.new f2 (fun _ _ f => f), HT.out⟩
        case measure => simp [intOf]; omega
    · have hkn : k = n := by omega
      subst hkn
      have HT : Hid (shares c1 c2 = false) := by
        have := HA.out
        rw [← hnl, List.take_length] at this
        exact this
      go_wp2_with fail
      go_ret
      rw [HT.out]
      exact ⟨rfl, HG.out.new hw (fun _ _ f => f)⟩

set_option maxRecDepth 100000 in
set_option maxHeartbeats 2000000 in
theorem methodsDiffer_any (w : World) (s1 s2 : Ks) (c1 c2 : Cl) (h1 : ClAt w s1 c1) (h2 : ClAt w s2 c2) :
    Calls Tryz.prog 92 #[.agg #[.string s1.name, .string s1.super, .slice s1.p.a s1.p.n s1.p.c, .slice s1.f.a s1.f.n s1.f.c, .slice s1.m.a s1.m.n s1.m.c], .agg #[.string s2.name, .string s2.super, .slice s2.p.a s2.p.n s2.p.c, .slice s2.f.a s2.f.n s2.f.c, .slice s2.m.a s2.m.n s2.m.c]] w fun e w' => e = .returned (.bool (differ c1 c2)) ∧ Fr no w w' := by
  obtain ⟨n1, u1, p1, f1, ⟨ma, mn, mc⟩⟩ := s1
  obtain ⟨ls1, hl1, ha1⟩ := h1.m
  obtain ⟨ls2, hl2, ha2⟩ := h2.m
  have hmn : mn = c1.methods.length := by
    obtain ⟨q, c, e⟩ := hl1.form
    simp only [Value.slice.injEq] at e
    rw [← ha1.1]
    exact e.2.1
  subst hmn
  simp only [] at hl1 ⊢
  have G0 : Fr no w ((w.alloc (.cells #[.string n1, .string u1, .slice p1.a p1.n p1.c, .slice f1.a f1.n f1.c, .slice ma c1.methods.length mc] 68)).alloc (.cells #[.string s2.name, .string s2.super, .slice s2.p.a s2.p.n s2.p.c, .slice s2.f.a s2.f.n s2.f.c, .slice s2.m.a s2.m.n s2.m.c] 68)) := ((Fr.refl no w).alloc _ _).alloc _ _
  have A0 : ((w.alloc (.cells #[.string n1, .string u1, .slice p1.a p1.n p1.c, .slice f1.a f1.n f1.c, .slice ma c1.methods.length mc] 68)).alloc (.cells #[.string s2.name, .string s2.super, .slice s2.p.a s2.p.n s2.p.c, .slice s2.f.a s2.f.n s2.f.c, .slice s2.m.a s2.m.n s2.m.c] 68)).heap[w.heap.size]? = some (.cells #[.string n1, .string u1, .slice p1.a p1.n p1.c, .slice f1.a f1.n f1.c, .slice ma c1.methods.length mc] 68 (0, 0)) := (Below.heap_alloc _ _ _ (by simp)).trans (heap_alloc_new w _)
  have B0 : ((w.alloc (.cells #[.string n1, .string u1, .slice p1.a p1.n p1.c, .slice f1.a f1.n f1.c, .slice ma c1.methods.length mc] 68)).alloc (.cells #[.string s2.name, .string s2.super, .slice s2.p.a s2.p.n s2.p.c, .slice s2.f.a s2.f.n s2.f.c, .slice s2.m.a s2.m.n s2.m.c] 68)).heap[w.heap.size + 1]? = some (.cells #[.string s2.name, .string s2.super, .slice s2.p.a s2.p.n s2.p.c, .slice s2.f.a s2.f.n s2.f.c, .slice s2.m.a s2.m.n s2.m.c] 68 (0, 0)) := by
    have : (w.alloc (.cells #[.string n1, .string u1, .slice p1.a p1.n p1.c, .slice f1.a f1.n f1.c, .slice ma c1.methods.length mc] 68)).heap.size = w.heap.size + 1 := by simp
    rw [← this]
    exact heap_alloc_new _ _
  obtain ⟨-, -, -, -, a4⟩ := box5 A0
  have KB : Hid (∀ w', Fr no ((w.alloc (.cells #[.string n1, .string u1, .slice p1.a p1.n p1.c, .slice f1.a f1.n f1.c, .slice ma c1.methods.length mc] 68)).alloc (.cells #[.string s2.name, .string s2.super, .slice s2.p.a s2.p.n s2.p.c, .slice s2.f.a s2.f.n s2.f.c, .slice s2.m.a s2.m.n s2.m.c] 68)) w' → w'.cell? ⟨w.heap.size + 1, 4, none⟩ = some (.slice s2.m.a s2.m.n s2.m.c)) := fun w' hf => (box5 (hf.heap B0 (fun f => f))).2.2.2.2
  have HF1 : Hid (SlG elMs ((w.alloc (.cells #[.string n1, .string u1, .slice p1.a p1.n p1.c, .slice f1.a f1.n f1.c, .slice ma c1.methods.length mc] 68)).alloc (.cells #[.string s2.name, .string s2.super, .slice s2.p.a s2.p.n s2.p.c, .slice s2.f.a s2.f.n s2.f.c, .slice s2.m.a s2.m.n s2.m.c] 68)) (.slice ma c1.methods.length mc) ls1 ∧ AtAll ((w.alloc (.cells #[.string n1, .string u1, .slice p1.a p1.n p1.c, .slice f1.a f1.n f1.c, .slice ma c1.methods.length mc] 68)).alloc (.cells #[.string s2.name, .string s2.super, .slice s2.p.a s2.p.n s2.p.c, .slice s2.f.a s2.f.n s2.f.c, .slice s2.m.a s2.m.n s2.m.c] 68)) ls1 c1.methods) := ⟨hl1.kept G0, ha1.kept G0⟩
  have HF2 : Hid (SlG elMs ((w.alloc (.cells #[.string n1, .string u1, .slice p1.a p1.n p1.c, .slice f1.a f1.n f1.c, .slice ma c1.methods.length mc] 68)).alloc (.cells #[.string s2.name, .string s2.super, .slice s2.p.a s2.p.n s2.p.c, .slice s2.f.a s2.f.n s2.f.c, .slice s2.m.a s2.m.n s2.m.c] 68)) (.slice s2.m.a s2.m.n s2.m.c) ls2 ∧ AtAll ((w.alloc (.cells #[.string n1, .string u1, .slice p1.a p1.n p1.c, .slice f1.a f1.n f1.c, .slice ma c1.methods.length mc] 68)).alloc (.cells #[.string s2.name, .string s2.super, .slice s2.p.a s2.p.n s2.p.c, .slice s2.f.a s2.f.n s2.f.c, .slice s2.m.a s2.m.n s2.m.c] 68)) ls2 c2.methods) := ⟨hl2.kept G0, ha2.kept G0⟩
  have hle : c1.methods.length ≤ mc ∧ mc ≤ 9223372036854775807 := by
    obtain ⟨ad, cp, hv, hcap, hmx, -⟩ := HF1.out.1
    simp only [Value.slice.injEq] at hv
    unfold maxLen at hmx
    omega
  have HG : Hid (_) := G0
  clear h1 h2 G0 A0 B0 hl1 hl2 ha1 ha2
  generalize hnl : c1.methods.length = n at *
  generalize hW : ((w.alloc (.cells #[.string n1, .string u1, .slice p1.a p1.n p1.c, .slice f1.a f1.n f1.c, .slice ma n mc] 68)).alloc (.cells #[.string s2.name, .string s2.super, .slice s2.p.a s2.p.n s2.p.c, .slice s2.f.a s2.f.n s2.f.c, .slice s2.m.a s2.m.n s2.m.c] 68)) = W at *
  go_enter Tryz.func92, Tryz.ntmps92
  go_wp2_with fail
  go_loopw [10] (fun i wr => ∃ (k : Nat), i = .int .i64 (k : Int) ∧ k ≤ n ∧ Fr no W wr ∧ ((c1.methods.take k).any fun m => c2.methods.any fun n => decide (m.name = n.name) && !sameT m n) = false) (fun i _ => n - (intOf i).toNat)
  case atStart => exact ⟨0, rfl, by omega, Fr.refl _ _, by simp⟩
  case round =>
    obtain ⟨k, rfl, hk, hw, hall⟩ := hrel
    have HA : Hid (((c1.methods.take k).any fun m => c2.methods.any fun n => decide (m.name = n.name) && !sameT m n) = false) := hall
    clear hall
    by_cases hlt : k < n
    · have hki : (k : Int) < (n : Int) := by omega
      obtain ⟨m, hm⟩ : ∃ m, c1.methods[k]? = some m := ⟨_, List.getElem?_eq_getElem (by omega)⟩
      obtain ⟨x, hx⟩ : ∃ x, ls1[k]? = some x := ⟨_, List.getElem?_eq_getElem (by rw [HF1.out.2.1]; omega)⟩
      obtain ⟨ad, cp, hv, -, -, hit⟩ := HF1.out.1.kept hw
      simp only [Value.slice.injEq] at hv
      obtain ⟨rfl, -, -⟩ := hv
      obtain ⟨b, off, rfl, hc⟩ := hit k x hx
      have c0 := hc 0 _ rfl
      have c1' := hc 1 _ rfl
      have c2' := hc 2 _ rfl
      have c3 := hc 3 _ rfl
      have c4 := hc 4 _ rfl
      have c5 := hc 5 _ rfl
      have c6 := hc 6 _ rfl
      have c7 := hc 7 _ rfl
      simp only [elMs, Nat.add_zero] at c0 c1' c2' c3 c4 c5 c6 c7
      have G1 : Fr no wr (wr.alloc (.cells #[.string x.name, .slice x.p.a x.p.n x.p.c, .int .i64 x.ret.k, .string x.ret.c, .int .i64 x.lo, .int .i64 x.st, .slice x.c.a x.c.n x.c.c, .slice x.h.a x.h.n x.h.c] 64)) := (Fr.refl no wr).alloc _ _
      have E1 : BoxMs (wr.alloc (.cells #[.string x.name, .slice x.p.a x.p.n x.p.c, .int .i64 x.ret.k, .string x.ret.c, .int .i64 x.lo, .int .i64 x.st, .slice x.c.a x.c.n x.c.c, .slice x.h.a x.h.n x.h.c] 64)) wr.heap.size x := heap_alloc_new wr _
      have g1 := hw.new G1 (fun _ _ f => f)
      have kb := KB.out _ g1
      have mx := (HF1.out.2.2 k x m hx hm).kept g1
      have A2 := HF2.out.2.kept g1
      have AS := hasMs_any _ _ ls2 (HF2.out.1.kept g1) wr.heap.size (fun i => match c2.methods[i]? with | some y => decide (m.name = y.name) && !sameT m y | none => false) (fun w2 i y f2 hy => by
        have hil : i < ls2.length := (List.getElem?_eq_some_iff.1 hy).1
        obtain ⟨my, hmy⟩ : ∃ my, c2.methods[i]? = some my := ⟨_, List.getElem?_eq_getElem (by rw [← A2.1]; exact hil)⟩
        have := differ1_any w2 wr.heap.size x m (E1.kept f2) (mx.kept f2) y my ((A2.2 i y my hy hmy).kept f2)
        simp only [hmy]
        exact this)
      rw [A2.1, anyN_list (fun y => decide (m.name = y.name) && !sameT m y) c2.methods _ (fun i y hy => by simp only [hy])] at AS
      have HX : Hid (c1.methods[k]? = some m ∧ Fr no W (wr.alloc (.cells #[.string x.name, .slice x.p.a x.p.n x.p.c, .int .i64 x.ret.k, .string x.ret.c, .int .i64 x.lo, .int .i64 x.st, .slice x.c.a x.c.n x.c.c, .slice x.h.a x.h.n x.h.c] 64))) := ⟨hm, g1⟩
      clear hit hc hx G1 E1 g1 hw mx A2 hm
      cases hb : c2.methods.any (fun y => decide (m.name = y.name) && !sameT m y) with
      | true =>
        rw [hb] at AS
        have HT : Hid (differ c1 c2 = true) := List.any_eq_true.2 ⟨m, List.mem_of_getElem? HX.out.1, hb⟩
        clear hb
        go_wp2_with fail
        refine AS.mono ?_
        rintro e w2 ⟨rfl, f2⟩
        go_wp2_with fail
        go_ret
        rw [HT.out]
        exact ⟨rfl, HG.out.new (HX.out.2.new f2 (fun _ _ f => f)) (fun _ _ f => f)⟩
      | false =>
        rw [hb] at AS
        have HT : Hid (((c1.methods.take (k + 1)).any fun m => c2.methods.any fun n => decide (m.name = n.name) && !sameT m n) = false) := by
          show _ = _
          rw [take_next _ k m HX.out.1, List.any_append, HA.out]
          simp only [List.any_cons, List.any_nil, Bool.or_false, Bool.false_or]
          exact hb
        clear hb
        go_wp2_with fail
        refine AS.mono ?_
        rintro e w2 ⟨rfl, f2⟩
        go_wp2_with fail
        go_roundw
        case rel => exact ⟨k + 1, by go_num, by omega, HX.out.2.new f2 (fun _ _ f => f), HT.out⟩
        case measure => simp [intOf]; omega
    · have hkn : k = n := by omega
      subst hkn
      have HT : Hid (differ c1 c2 = false) := by
        have := HA.out
        rw [← hnl, List.take_length] at this
        exact this
      go_wp2_with fail
      go_ret
      rw [HT.out]
      exact ⟨rfl, HG.out.new hw (fun _ _ f => f)⟩
end Go.Proofs.YtpfkigoffllieaaGreatDoor
