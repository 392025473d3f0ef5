/- What a copy of a class holds. -/
import Derived.Test.YtalgjpmaafooeaaGreatDoorKae
import Derived.Test.YtalgjpmaafooeaaGreatDoorKad
import Derived.Test.YtalgjpmaafooeaaGreatDoorKab
import Derived.BigRegion
namespace Go.Proofs.YtalgjpmaafooeaaGreatDoor
open Go.ChangeShapes Go.WideShapes Go.ChangeAt Go.RowKit
structure ClOwn (w : World) (s : Ks) (c : Cl) : Prop where
 name : s.name = c.name
 super : s.super = c.super
 p : OwnG elCs w (.slice s.p.a s.p.n s.p.c) c.pool
 f : OwnG elFd w (.slice s.f.a s.f.n s.f.c) c.fields
 m : ∃ ls, OwnG elMs w (.slice s.m.a s.m.n s.m.c) ls ∧ ls.length = c.methods.length ∧ ∀ (i : Nat) (x : Ms) (m : Mt), ls[i]? = some x → c.methods[i]? = some m → MtOwn w x m
theorem ClOwn.at' {w : World} {s : Ks} {c : Cl} (h : ClOwn w s c) : ClAt w s c := by
 obtain ⟨ls, h1, h2, h3⟩ := h.m
 exact ⟨h.name, h.super, h.p.sl okCs, h.f.sl okFd, ls, h1.sl okMs, h2, fun i x m hx hm => (h3 i x m hx hm).at'⟩
theorem ClOwn.kept {S : Nat → Prop} {w w' : World} {s : Ks} {c : Cl} (h : ClOwn w s c) (hf : Fr S w w') (hS : Apart S w) : ClOwn w' s c := by
 obtain ⟨ls, h1, h2, h3⟩ := h.m
 refine ⟨h.name, h.super, h.p.kept hf (fun k hk hs => ?_), h.f.kept hf (fun k hk hs => ?_), ls, h1.kept hf (fun k hk hs => ?_), h2, fun i x m hx hm => (h3 i x m hx hm).kept hf hS.m⟩
 · obtain ⟨cur, hc⟩ := h.p.tag hk
   exact (hS k hs cur _ hc).1 rfl
 · obtain ⟨cur, hc⟩ := h.f.tag hk
   exact (hS k hs cur _ hc).2.1 rfl
 · obtain ⟨cur, hc⟩ := h1.tag hk
   exact (hS k hs cur _ hc).2.2.1 rfl
theorem ClOwn.keep {w w' : World} {s : Ks} {c : Cl} (h : ClOwn w s c) (hf : Fr no w w') : ClOwn w' s c := h.kept hf (Apart.no w)
theorem MtOwn.keep {w w' : World} {s : Ms} {m : Mt} (h : MtOwn w s m) (hf : Fr no w w') : MtOwn w' s m := h.kept hf (Apart.no w).m
theorem results_40 (w : World) (r : Nat) (x0 x1 x2 x3 x4 : Value) (h : w.heap[r]? = some (.cells #[x0, x1, x2, x3, x4] 51 (0, 0))) (tmps : Array Value) (h2 : tmps.getD 2 undef = .pointer (some ⟨r, 0, none⟩)) :
 (results Tryz.f47 tmps).run Tryz.prog w = .ok (.agg #[x0, x1, x2, x3, x4]) w := by
 have hl : (loadVar 51 ⟨r, 0, none⟩).run Tryz.prog w = .ok (.agg #[x0, x1, x2, x3, x4]) w := run_loadVar_row (P := Tryz.prog) w r 51 51 #[x0, x1, x2, x3, x4] (0, 0) _ h Tryz.underlying51 rfl (by kernel_rfl)
 have h2' : tmps[2]?.getD undef = .pointer (some ⟨r, 0, none⟩) := by simpa using h2
 simp [results, asAddr, h2', hl]
theorem OwnG.some_of {α : Type} {K : El α} {w : World} {q : Option Addr} {n c : Nat} {l : List α} (h : OwnG K w (.slice q n c) l) (hl : l ≠ []) : ∃ g, q = some ⟨g, 0, none⟩ := by
 rcases h.1.2 with ⟨e, h0⟩ | ⟨g, cap, cur, e, _⟩
 · exact absurd (List.eq_nil_of_length_eq_zero h0) hl
 · simp only [Value.slice.injEq] at e
   exact ⟨g, e.1⟩
set_option maxRecDepth 100000 in
set_option maxHeartbeats 4000000 in
theorem copyClass_any (w : World) (s : Ks) (c : Cl) (h : ClAt w s c) (hs : SmallC c) :
 Calls Tryz.prog 47 #[ksV s] w fun e w' => ∃ s', e = .returned (ksV s') ∧ ClOwn w' s' c ∧ Fr no w w' := by
 obtain ⟨sn, ss, sp, sf, sm⟩ := s
 obtain ⟨e1, e2, hp, hfi, ls0, hm, hma⟩ := h
 simp only [] at e1 e2 hp hfi hm
 subst e1 e2
 unfold ksV
 simp only []
 have HW : Hid (∃ W0, W0 = (w.alloc (.cells #[.string c.name, .string c.super, .slice sp.a sp.n sp.c, .slice sf.a sf.n sf.c, .slice sm.a sm.n sm.c] 51)).alloc (.cells #[.string ⟨#[]⟩, .string ⟨#[]⟩, .slice none 0 0, .slice none 0 0, .slice none 0 0] 51)) := ⟨_, rfl⟩
 obtain ⟨W0, hW0⟩ := HW.out
 have F0 : Fr no w W0 := by rw [hW0]; exact ((Fr.refl no w).alloc _ _).alloc _ _
 have A0 : W0.heap[w.heap.size]? = some (.cells #[.string c.name, .string c.super, .slice sp.a sp.n sp.c, .slice sf.a sf.n sf.c, .slice sm.a sm.n sm.c] 51 (0, 0)) := by
  rw [hW0]
  exact (Below.heap_alloc _ _ _ (by simp)).trans (heap_alloc_new w _)
 have B0 : W0.heap[w.heap.size + 1]? = some (.cells #[.string ⟨#[]⟩, .string ⟨#[]⟩, .slice none 0 0, .slice none 0 0, .slice none 0 0] 51 (0, 0)) := by
  rw [hW0]
  have : (w.alloc (.cells #[.string c.name, .string c.super, .slice sp.a sp.n sp.c, .slice sf.a sf.n sf.c, .slice sm.a sm.n sm.c] 51)).heap.size = w.heap.size + 1 := by simp
  rw [← this]
  exact heap_alloc_new _ _
 have Z0 : W0.heap.size = w.heap.size + 1 + 1 := by rw [hW0]; simp
 have hlen : ls0.length = c.methods.length := hma.1
 have C1 := cloneCs_any W0 _ _ (hp.kept F0) hs.p
 have H2 : Hid (∀ x, Fr no w x → Calls Tryz.prog 82 #[.slice sf.a sf.n sf.c] x fun e w' => ∃ v', e = .returned v' ∧ OwnG elFd w' v' c.fields ∧ NewV x v' ∧ Fr no x w') := fun x f => cloneFd_any x _ _ (hfi.kept f) hs.f
 have H3 : Hid (∀ x, Fr no w x → Calls Tryz.prog 83 #[.slice sm.a sm.n sm.c] x fun e w' => ∃ v', e = .returned v' ∧ OwnG elMs w' v' ls0 ∧ NewV x v' ∧ Fr no x w') := fun x f => cloneMs_any x _ _ (hm.kept f) (by rw [hlen]; exact hs.m)
 have H4 : Hid (∀ (i : Nat) (x : Ms) (m : Mt), ls0[i]? = some x → c.methods[i]? = some m → ∀ x', Fr no w x' → Calls Tryz.prog 58 #[msV x] x' fun e w' => ∃ s', e = .returned (msV s') ∧ MtOwn w' s' m ∧ Fr no x' w') :=
  fun i x m hx hm x' f => copyMethod_any x' x m ((hma.2 i x m hx hm).kept f) (hs.ms m (List.mem_of_getElem? hm))
 have HL : Hid (ls0.length = c.methods.length) := hlen
 have hn1 : c.methods.length ≤ 1000 := hs.m
 have HZ : Hid (W0.heap.size = w.heap.size + 1 + 1) := Z0
 have HA : Hid (_ ∧ _) := ⟨A0, B0⟩
 have HF : Hid (Fr no w W0) := F0
 obtain ⟨a0, a1, a2, a3, a4⟩ := box5 A0
 clear hp hfi hm hma hs A0 B0 F0 Z0 HW hlen
 generalize hcn : c.name = cn at *
 generalize hcs : c.super = cs at *
 generalize hnm : c.methods.length = nm at *
 go_enter Tryz.func47, Tryz.ntmps47
 go_wp2_with fail
 rw [← hW0]
 go_wp2_with fail
 refine C1.mono ?_
 rintro e w1 ⟨v1, rfl, o1, n1, f1⟩
 obtain ⟨q1, c1, rfl⟩ := o1.form
 have F1 : Fr no w w1 := HF.out.new f1 (fun _ _ f => f)
 have A1 := f1.heap HA.out.1 (fun f => f)
 have B1 := f1.heap HA.out.2 (fun f => f)
 have fz1 := frozen_at (o := 2) A1
 have Z1 : w.heap.size + 1 + 1 ≤ w1.heap.size := by have := f1.size; have := HZ.out; omega
 clear a0 a1 a2 a3 a4
 obtain ⟨a0, a1, a2, a3, a4⟩ := box5 A1
 have D1 : Fr (fun k => k = w.heap.size) w1 (w1.setCell ⟨w.heap.size, 2, none⟩ (.slice q1 c.pool.length c1)) := (Fr.refl (fun k => k = w.heap.size) w1).setCell (p := ⟨w.heap.size, 2, none⟩) (fun _ => rfl) _
 have A1' : (w1.setCell ⟨w.heap.size, 2, none⟩ (.slice q1 c.pool.length c1)).heap[w.heap.size]? = some (.cells #[.string cn, .string cs, .slice q1 c.pool.length c1, .slice sf.a sf.n sf.c, .slice sm.a sm.n sm.c] 51 (0, 0)) := set_at A1
 have B1' := D1.heap B1 (by omega)
 have F1' : Fr no w (w1.setCell ⟨w.heap.size, 2, none⟩ (.slice q1 c.pool.length c1)) := F1.new D1 (fun i hi e => by omega)
 have O1' := o1.kept D1 (fun k hk e => by have := n1 k hk; have := HZ.out; omega)
 have HK1 : Hid (_ ∧ _ ∧ _ ∧ _) := ⟨A1', B1', F1', O1'⟩
 clear A1' B1' F1' O1' A1 B1 F1 D1 o1 n1 f1
 go_wp2_with fail
 refine (H2.out _ HK1.out.2.2.1).mono ?_
 rintro e w2 ⟨v2, rfl, o2, n2, f2⟩
 obtain ⟨q2, c2, rfl⟩ := o2.form
 have F2 : Fr no w w2 := HK1.out.2.2.1.new f2 (fun _ _ f => f)
 have A2 := f2.heap HK1.out.1 (fun f => f)
 have B2 := f2.heap HK1.out.2.1 (fun f => f)
 have O12 := HK1.out.2.2.2.keep f2
 have Z2 : w.heap.size + 1 + 1 ≤ w2.heap.size := by have := f2.size; simp [World.setCell] at this; omega
 have fz2 := frozen_at (o := 3) A2
 clear a0 a1 a2 a3 a4
 obtain ⟨a0, a1, a2, a3, a4⟩ := box5 A2
 have D2 : Fr (fun k => k = w.heap.size) w2 (w2.setCell ⟨w.heap.size, 3, none⟩ (.slice q2 c.fields.length c2)) := (Fr.refl (fun k => k = w.heap.size) w2).setCell (p := ⟨w.heap.size, 3, none⟩) (fun _ => rfl) _
 have A2' : (w2.setCell ⟨w.heap.size, 3, none⟩ (.slice q2 c.fields.length c2)).heap[w.heap.size]? = some (.cells #[.string cn, .string cs, .slice q1 c.pool.length c1, .slice q2 c.fields.length c2, .slice sm.a sm.n sm.c] 51 (0, 0)) := set_at A2
 have B2' := D2.heap B2 (by omega)
 have F2' : Fr no w (w2.setCell ⟨w.heap.size, 3, none⟩ (.slice q2 c.fields.length c2)) := F2.new D2 (fun i hi e => by omega)
 have nt : ∀ {α : Type} {K : El α} {v : Value} {l : List α}, OwnG K w2 v l → K.e ≠ 51 → ∀ k, v.ownBlock = some k → ¬ k = w.heap.size := fun h hK k hk e => by
  obtain ⟨cur, hc⟩ := h.tag hk
  rw [e, A2] at hc
  simp only [Option.some.injEq, Obj.cells.injEq] at hc
  exact hK hc.2.1.symm
 have P12 := O12.kept D2 (nt O12 (by decide))
 have P22 := o2.kept D2 (nt o2 (by decide))
 have HK2 : Hid (_ ∧ _ ∧ _ ∧ _ ∧ _) := ⟨A2', B2', F2', P12, P22⟩
 clear A2' B2' F2' P12 P22 A2 B2 F2 D2 o2 n2 f2 nt O12 HK1
 go_wp2_with fail
 refine (H3.out _ HK2.out.2.2.1).mono ?_
 rintro e w3 ⟨v3, rfl, o3, n3, f3⟩
 obtain ⟨q3, c3, rfl⟩ := o3.form
 have F3 : Fr no w w3 := HK2.out.2.2.1.new f3 (fun _ _ f => f)
 have A3 := f3.heap HK2.out.1 (fun f => f)
 have B3 := f3.heap HK2.out.2.1 (fun f => f)
 have O13 := HK2.out.2.2.2.1.keep f3
 have O23 := HK2.out.2.2.2.2.keep f3
 have Z3 : w.heap.size + 1 + 1 ≤ w3.heap.size := by have := f3.size; simp [World.setCell] at this; omega
 have fz3 := frozen_at (o := 4) A3
 clear a0 a1 a2 a3 a4
 have D3 : Fr (fun k => k = w.heap.size) w3 (w3.setCell ⟨w.heap.size, 4, none⟩ (.slice q3 ls0.length c3)) := (Fr.refl (fun k => k = w.heap.size) w3).setCell (p := ⟨w.heap.size, 4, none⟩) (fun _ => rfl) _
 have A3' : (w3.setCell ⟨w.heap.size, 4, none⟩ (.slice q3 ls0.length c3)).heap[w.heap.size]? = some (.cells #[.string cn, .string cs, .slice q1 c.pool.length c1, .slice q2 c.fields.length c2, .slice q3 ls0.length c3] 51 (0, 0)) := set_at A3
 have B3' := D3.heap B3 (by omega)
 have F3' : Fr no w (w3.setCell ⟨w.heap.size, 4, none⟩ (.slice q3 ls0.length c3)) := F3.new D3 (fun i hi e => by omega)
 have nt : ∀ {α : Type} {K : El α} {v : Value} {l : List α}, OwnG K w3 v l → K.e ≠ 51 → ∀ k, v.ownBlock = some k → ¬ k = w.heap.size := fun h hK k hk e => by
  obtain ⟨cur, hc⟩ := h.tag hk
  rw [e, A3] at hc
  simp only [Option.some.injEq, Obj.cells.injEq] at hc
  exact hK hc.2.1.symm
 have P13 := O13.kept D3 (nt O13 (by decide))
 have P23 := O23.kept D3 (nt O23 (by decide))
 have P33 := o3.kept D3 (nt o3 (by decide))
 clear nt
 rw [HL.out] at A3' F3' P33 P13 P23 B3'
 have HN3 : Hid (∀ k, (Value.slice q3 nm c3).ownBlock = some k → w.heap.size ≤ k) := fun k hk => by
  have := n3 k (by rw [HL.out]; exact hk)
  simp [World.setCell] at this
  omega
 obtain ⟨y0, y1, y2, y3, y4⟩ := box5 A3
 obtain ⟨a0, a1, a2, a3, a4⟩ := box5 A3'
 have HK3 : Hid (_ ∧ _ ∧ _ ∧ _ ∧ _ ∧ _) := ⟨A3', B3', F3', P13, P23, P33⟩
 have ZV : w.heap.size + 1 + 1 ≤ (w3.setCell ⟨w.heap.size, 4, none⟩ (.slice q3 nm c3)).heap.size := by simp [World.setCell]; omega
 clear A3' B3' F3' P13 P23 P33 A3 B3 F3 D3 o3 f3 O13 O23 HK2
 rw [HL.out]
 go_wp2_with fail
 generalize hV : w3.setCell ⟨w.heap.size, 4, none⟩ (.slice q3 nm c3) = V at *
 clear y0 y1 y2 y3 y4 fz1 fz2 fz3 a0 a1 a2 a3 a4 hV H2 H3 C1 n3
 go_loopw [20] (fun i wr => ∃ (k : Nat) (ls : List Ms), i = .int .i64 (k : Int) ∧ k ≤ nm ∧ wr.heap[w.heap.size]? = some (.cells #[.string cn, .string cs, .slice q1 c.pool.length c1, .slice q2 c.fields.length c2, .slice q3 nm c3] 51 (0, 0)) ∧
  wr.heap[w.heap.size + 1]? = some (.cells #[.string ⟨#[]⟩, .string ⟨#[]⟩, .slice none 0 0, .slice none 0 0, .slice none 0 0] 51 (0, 0)) ∧ Fr no w wr ∧ OwnG elCs wr (.slice q1 c.pool.length c1) c.pool ∧ OwnG elFd wr (.slice q2 c.fields.length c2) c.fields ∧
  OwnG elMs wr (.slice q3 nm c3) ls ∧ ls.length = nm ∧ (∀ (j : Nat) (x : Ms) (m : Mt), j < k → ls[j]? = some x → c.methods[j]? = some m → MtOwn wr x m) ∧ (∀ j, k ≤ j → ls[j]? = ls0[j]?)) (fun i _ => nm - (intOf i).toNat)
 case atStart => exact ⟨0, ls0, rfl, Nat.zero_le _, HK3.out.1, HK3.out.2.1, HK3.out.2.2.1, HK3.out.2.2.2.1, HK3.out.2.2.2.2.1, HK3.out.2.2.2.2.2, HL.out, fun j x m hj => absurd hj (by omega), fun _ _ => rfl⟩
 case round =>
  obtain ⟨k, ls, rfl, hk, r1, r2, r3, r4, r5, r6, r7, r8, r9⟩ := hrel
  by_cases hlt : k < nm
  · have hki : (k : Int) < (nm : Int) := by omega
    obtain ⟨x, hx0⟩ : ∃ x, ls0[k]? = some x := ⟨_, List.getElem?_eq_getElem (by rw [HL.out]; exact hlt)⟩
    obtain ⟨m, hm0⟩ : ∃ m, c.methods[k]? = some m := ⟨_, List.getElem?_eq_getElem (by omega)⟩
    have hx : ls[k]? = some x := by rw [r9 k (Nat.le_refl _)]; exact hx0
    obtain ⟨g, rfl⟩ := r6.some_of (fun e => by rw [e] at hx; simp at hx)
    have d : ∀ j u, (msC x)[j]? = some u → wr.cell? ⟨g, k * 8 + j, none⟩ = some u := fun j u hj => r6.cell okMs hx hj
    have d0 := d 0 _ rfl
    have d1 := d 1 _ rfl
    have d2 := d 2 _ rfl
    have d3 := d 3 _ rfl
    have d4 := d 4 _ rfl
    have d5 := d 5 _ rfl
    have d6 := d 6 _ rfl
    have d7 := d 7 _ rfl
    rw [Nat.add_zero] at d0
    obtain ⟨cur, hcur, -, hc3, hmx, hcs', -, -⟩ := r6.cur
    have HGW : Hid (w.heap.size ≤ g) := HN3.out g rfl
    have HC3 : Hid (nm ≤ c3) := by show nm ≤ c3; rw [← r7]; exact hc3
    have hgA : g ≠ w.heap.size := fun e => by rw [e, r1] at hcur; simp [elMs] at hcur
    have hgB : g ≠ w.heap.size + 1 := fun e => by rw [e, r2] at hcur; simp [elMs] at hcur
    have G1 : Fr no wr (wr.alloc (.cells #[.string x.name, .slice x.p.a x.p.n x.p.c, .int .i64 x.ret.k, .string x.ret.c, .int .i64 x.lo, .int .i64 x.st, .slice x.c.a x.c.n x.c.c, .slice x.h.a x.h.n x.h.c] 47)) := (Fr.refl no wr).alloc _ _
    have E1 : (wr.alloc (.cells #[.string x.name, .slice x.p.a x.p.n x.p.c, .int .i64 x.ret.k, .string x.ret.c, .int .i64 x.lo, .int .i64 x.st, .slice x.c.a x.c.n x.c.c, .slice x.h.a x.h.n x.h.c] 47)).heap[wr.heap.size]? = some (.cells #[.string x.name, .slice x.p.a x.p.n x.p.c, .int .i64 x.ret.k, .string x.ret.c, .int .i64 x.lo, .int .i64 x.st, .slice x.c.a x.c.n x.c.c, .slice x.h.a x.h.n x.h.c] 47 (0, 0)) := heap_alloc_new wr _
    have hgw : g < wr.heap.size := lt_of_heap hcur
    have hAw : w.heap.size < wr.heap.size := lt_of_heap r1
    have HR : Hid (_ ∧ _ ∧ _ ∧ _ ∧ _ ∧ _ ∧ _ ∧ _ ∧ _ ∧ _) := ⟨r1, r2, r3, r4, r5, r6, r7, r8, r9, hcur⟩
    have HX : Hid (ls0[k]? = some x ∧ c.methods[k]? = some m ∧ ls[k]? = some x) := ⟨hx0, hm0, hx⟩
    have HE : Hid (_ ∧ _) := ⟨G1, E1⟩
    clear r1 r2 r3 r4 r5 r6 r7 r8 r9 hcur hx0 hm0 hx G1 E1
    go_wp2_with fail
    generalize hW : wr.alloc (.cells #[.string x.name, .slice x.p.a x.p.n x.p.c, .int .i64 x.ret.k, .string x.ret.c, .int .i64 x.lo, .int .i64 x.st, .slice x.c.a x.c.n x.c.c, .slice x.h.a x.h.n x.h.c] 47) = W at *
    have KS : Hid (∀ w2, Fr no W w2 → w2.heap[w.heap.size]? = some (.cells #[.string cn, .string cs, .slice q1 c.pool.length c1, .slice q2 c.fields.length c2, .slice (some ⟨g, 0, none⟩) nm c3] 51 (0, 0)) ∧ w2.heap[wr.heap.size]? = some (.cells #[.string x.name, .slice x.p.a x.p.n x.p.c, .int .i64 x.ret.k, .string x.ret.c, .int .i64 x.lo, .int .i64 x.st, .slice x.c.a x.c.n x.c.c, .slice x.h.a x.h.n x.h.c] 47 (0, 0))) := fun w2 f2 => ⟨f2.heap (HE.out.1.heap HR.out.1 (fun f => f)) (fun f => f), f2.heap HE.out.2 (fun f => f)⟩
    have C4 := H4.out k x m HX.out.1 HX.out.2.1 W.drew ((HR.out.2.2.1.new HE.out.1 (fun _ _ f => f)).drew)
    unfold msV at C4
    have HST : Hid (∀ w4, Fr no W w4 → ∀ s' : Ms, ∃ w5, (Instr.storeAt 47 (.pointer (some ⟨g, k * 8, none⟩)) (.agg #[.string s'.name, .slice s'.p.a s'.p.n s'.p.c, .int .i64 s'.ret.k, .string s'.ret.c, .int .i64 s'.lo, .int .i64 s'.st, .slice s'.c.a s'.c.n s'.c.c, .slice s'.h.a s'.h.n s'.h.c])).run Tryz.prog w4 = .ok () w5 ∧ w5.heap[g]? = some (.cells (sets cur (k * 8) (msC s')) 47 (0, 0)) ∧ Fr (fun k => k = g) w4 w5) := fun w4 g4 s' =>
     store_mid w4 g (k * 8) 47 47 cur _ (g4.heap (HE.out.1.heap HR.out.2.2.2.2.2.2.2.2.2 (fun f => f)) (fun f => f)) (by rw [hcs']; show k * 8 + 8 ≤ c3 * 8; have := HC3.out; omega) (by kernel_rfl) (by kernel_rfl)
    have HS0 : Hid (_) := KS.out _ (Fr.refl no W).drew
    refine late_begin (S := fun w2 => w2.heap[w.heap.size]? = some (.cells #[.string cn, .string cs, .slice q1 c.pool.length c1, .slice q2 c.fields.length c2, .slice (some ⟨g, 0, none⟩) nm c3] 51 (0, 0)) ∧ w2.heap[wr.heap.size]? = some (.cells #[.string x.name, .slice x.p.a x.p.n x.p.c, .int .i64 x.ret.k, .string x.ret.c, .int .i64 x.lo, .int .i64 x.st, .slice x.c.a x.c.n x.c.c, .slice x.h.a x.h.n x.h.c] 47 (0, 0))) (g := 6) (by kernel_rfl) ?_
    refine late_pure 0 (ptr w.heap.size 4) rfl (by kernel_rfl) (by kernel_rfl) (by kernel_rfl) (fun _ _ _ h => h) (by decide) (yields rfl (fun _ _ => ev_field 51 1 4 (ptr w.heap.size 0) _ rfl (by kernel_rfl) (by kernel_rfl))) (fun _ => HS0.out) ?_
    refine late_take 1 (.slice (some ⟨g, 0, none⟩) nm c3) rfl (by kernel_rfl) (by kernel_rfl) (by kernel_rfl) (fun _ _ _ h => h) (waits_of (by kernel_rfl)) (by decide) (by kernel_rfl) (yields rfl (fun _ hS => ev_load 48 25 (ptr w.heap.size 4) _ rfl (by kernel_rfl) (by simp [go_sem, (box5 hS.1).2.2.2.2]))) HS0.out ?_
    refine late_pure 2 (.int .i64 (k : Int)) rfl (by kernel_rfl) (by kernel_rfl) (by kernel_rfl) (fun _ _ _ h => h) (by decide) (yields rfl (fun _ _ => ev_move 3 _ rfl (by kernel_rfl))) (fun _ => HS0.out) ?_
    refine late_take 3 (.agg #[.string x.name, .slice x.p.a x.p.n x.p.c, .int .i64 x.ret.k, .string x.ret.c, .int .i64 x.lo, .int .i64 x.st, .slice x.c.a x.c.n x.c.c, .slice x.h.a x.h.n x.h.c]) rfl (by kernel_rfl) (by kernel_rfl) (by kernel_rfl) (fun _ _ _ h => h) (waits_of (by kernel_rfl)) (by decide) (by kernel_rfl) (yields rfl (fun w2 hS => ev_load 47 4 (ptr wr.heap.size 0) _ rfl (by kernel_rfl) (load_row w2 _ 47 _ _ hS.2 Tryz.underlying47 rfl (by kernel_rfl)))) HS0.out ?_
    refine late_all [4] (by kernel_rfl) (by simp) (fun j hj => ?_)
    simp only [List.mem_singleton] at hj
    subst hj
    refine late_call (f := 58) rfl rfl (by kernel_rfl) (R := fun v w' => ∃ s', v = msV s' ∧ MtOwn w' s' m ∧ Fr no W.drew w') (C4.mono (fun e w' ⟨s', h1, h2, h3⟩ => ⟨_, h1, s', rfl, h2, h3⟩)) (fun v w4 hv => ?_)
    obtain ⟨s', rfl, o4, f4⟩ := hv
    have g4 : Fr no W w4 := (Fr.refl no W).drew.new f4 (fun _ _ f => f)
    obtain ⟨w5, hst, hb5, f5⟩ := HST.out w4 g4 s'
    refine ⟨fun _ => KS.out _ g4, ?_⟩
    refine late_pure 5 (.pointer (some ⟨g, k * 8, none⟩)) rfl (by kernel_rfl) (by kernel_rfl) (by kernel_rfl) (fun _ _ _ h => h) (by decide) (yields rfl (fun _ _ => ev_index 48 26 27 (.slice (some ⟨g, 0, none⟩) nm c3) (.int .i64 (k : Int)) _ rfl (by kernel_rfl) (by kernel_rfl) (by simp [go_sem, hki]))) (fun _ => KS.out _ g4) ?_
    refine late_all [6] (by kernel_rfl) (by simp) (fun j hj => ?_)
    simp only [List.mem_singleton] at hj
    subst hj
    refine late_skip rfl rfl (ev_store 47 30 29 _ _ _ rfl (by kernel_rfl) (by kernel_rfl) hst) ⟨(fun h => Bool.noConfusion (show true = false from h)), ?_⟩
    refine late_done (by kernel_rfl) ?_
    go_wp2_with fail
    go_roundw
    case rel =>
     obtain ⟨r1, r2, r3, r4, r5, r6, r7, r8, r9, hcur⟩ := HR.out
     have gg := HE.out.1
     have fW : Fr no wr w4 := gg.new g4 (fun _ _ f => f)
     have q6 := r6.keep fW
     have qc := fW.heap hcur (fun f => f)
     have tagn : ∀ {α : Type} {K : El α} {v : Value} {l : List α}, OwnG K w4 v l → K.e ≠ 47 → ∀ k, v.ownBlock = some k → ¬ k = g := fun h hK k hk e => by
      obtain ⟨cu, hc⟩ := h.tag hk
      rw [e, qc] at hc
      simp only [Option.some.injEq, Obj.cells.injEq] at hc
      exact hK hc.2.1.symm
     have apm : ApartM (fun k => k = g) w4 := fun k hk cu e hc => by
      rw [hk, qc] at hc
      simp only [Option.some.injEq, Obj.cells.injEq] at hc
      obtain ⟨_, h51, _⟩ := hc
      rw [← h51]
      decide
     have hkl : k < ls.length := by rw [r7]; exact hlt
     refine ⟨k + 1, ls.set k s', by go_num, by omega, f5.heap (fW.heap r1 (fun f => f)) (Ne.symm hgA), f5.heap (fW.heap r2 (fun f => f)) (Ne.symm hgB), (r3.new fW (fun _ _ f => f)).new f5 (fun i hi e => ?_), (r4.keep fW).kept f5 (tagn (r4.keep fW) (by decide)), (r5.keep fW).kept f5 (tagn (r5.keep fW) (by decide)), q6.puts okMs qc hkl s' hb5, by rw [List.length_set]; exact r7, fun j x' m' hj hx' hm' => ?_, fun j hj => ?_⟩
     · have := HGW.out
       omega
     · by_cases hjk : j = k
       · subst hjk
         rw [List.getElem?_set_self hkl] at hx'
         simp only [Option.some.injEq] at hx'
         subst hx'
         rw [HX.out.2.1] at hm'
         simp only [Option.some.injEq] at hm'
         subst hm'
         exact o4.kept f5 apm
       · rw [List.getElem?_set_ne (Ne.symm hjk)] at hx'
         exact ((r8 j x' m' (by omega) hx' hm').keep fW).kept f5 apm
     · rw [List.getElem?_set_ne (by omega)]
       exact r9 j (by omega)
    case measure => simp [intOf]; omega
  · have hkn : k = nm := by omega
    subst hkn
    have HR : Hid (_ ∧ _ ∧ _ ∧ _ ∧ _ ∧ _ ∧ _ ∧ _) := ⟨r1, r2, r3, r4, r5, r6, r7, r8⟩
    obtain ⟨a0, a1, a2, a3, a4⟩ := box5 r1
    obtain ⟨b0, b1, b2, b3, b4⟩ := box5 r2
    have fb := fun o => frozen_at (o := o) r2
    clear r1 r2 r3 r4 r5 r6 r7 r8 r9
    go_wp2_with fail
    refine bodyPost_ret (results_40 _ (w.heap.size + 1) _ _ _ _ _ (chain5 HR.out.2.1 _ _ _ _ _) _ rfl) rfl ?_
    obtain ⟨r1, r2, r3, r4, r5, r6, r7, r8⟩ := HR.out
    have FC := frc5 wr (w.heap.size + 1) (.string cn) (.string cs) (.slice q1 c.pool.length c1) (.slice q2 c.fields.length c2) (.slice q3 k c3)
    have nt : ∀ {α : Type} {K : El α} {v : Value} {l : List α}, OwnG K wr v l → K.e ≠ 51 → ∀ k, v.ownBlock = some k → ¬ k = w.heap.size + 1 := fun h hK k hk e => by
     obtain ⟨cur, hc⟩ := h.tag hk
     rw [e, r2] at hc
     simp only [Option.some.injEq, Obj.cells.injEq] at hc
     exact hK hc.2.1.symm
    have apm : ApartM (fun k => k = w.heap.size + 1) wr := fun k hk cu e hc => by
     rw [hk, r2] at hc
     simp only [Option.some.injEq, Obj.cells.injEq] at hc
     obtain ⟨_, h59, _⟩ := hc
     rw [← h59]
     decide
    exact ⟨⟨cn, cs, ⟨q1, _, c1⟩, ⟨q2, _, c2⟩, ⟨q3, _, c3⟩⟩, rfl, ⟨hcn.symm, hcs.symm, r4.kept FC (nt r4 (by decide)), r5.kept FC (nt r5 (by decide)), ls, r6.kept FC (nt r6 (by decide)), by rw [r7, hnm], fun i x m hx hm => (r8 i x m (by have := (List.getElem?_eq_some_iff.1 hx).1; omega) hx hm).kept FC apm⟩, r3.new FC (fun i hi e => by omega)⟩
end Go.Proofs.YtalgjpmaafooeaaGreatDoor
/- Ancestors; words. -/
namespace Go.Proofs.YtalgjpmaafooeaaGreatDoor
open Go.ChangeShapes Go.WideShapes Go.ChangeAt Go.RowKit
namespace H
set_option maxRecDepth 100000 in
set_option maxHeartbeats 1000000 in
theorem ancestors_any {c : Nat} (w : World) (p : Nat) (N : List ByteArray) (A : List Nat) (h : HB c w p N A) (hA : Fine N.length A) (hN : N.length ≤ 1000) (s : ByteArray) (hs : s.size ≤ 1099511627776) :
 Calls Tryz.prog 84 #[.pointer (some ⟨p, 0, none⟩), .string s] w fun e w' => ∃ v, e = .returned v ∧ OwnG elS w' v (anc N A s) ∧ NewV w v ∧ Fr no w w' := by
 have HBK : Hid (HB c w p N A) := h
 obtain ⟨vn, va, m, D, h1, h2, h3, h4, h5, h6⟩ := h
 obtain ⟨_, hc1, _⟩ := cells3 h1
 obtain ⟨x, hrun, hx⟩ := look h4 h5 s hs
 clear h1 h2 h3 h4 h5 h6
 cases hi : ix s N with
 | none =>
  have HA : Hid (anc N A s = []) := by show _ = _; unfold anc; rw [hi]
  rw [hi] at hrun
  simp only [Option.isSome_none] at hrun
  clear hx hi
  go_enter Tryz.func84, Tryz.ntmps84
  go_wp2_with fail
  go_ret
  exact ⟨_, rfl, by rw [HA.out]; exact OwnG.nil _ _, NewV.nil _, Fr.refl _ _⟩
 | some i =>
  have HA : Hid (anc N A s = (up A N.length i).1.map (nameAt N)) := by show _ = _; unfold anc; rw [hi]
  rw [hi] at hrun
  simp only [Option.isSome_some] at hrun
  obtain rfl := hx i hi
  have hiN := ix_lt hi
  have W := way_any w p N A HBK.out hA hN i hiN
  have HL : Hid (∀ j ∈ (up A N.length i).1, j < N.length) := up_lt hA _ i hiN
  have HU : Hid ((up A N.length i).1.length ≤ N.length) := up_len A _ i
  clear hx hi
  generalize (up A N.length i).2 = ub at *
  generalize (up A N.length i).1 = P at *
  have MK : ∀ (w : World) (n : Nat), n ≤ 1000 → (Instr.makeSlice 75 (.int .i64 0) (.int .i64 (n : Int))).run Tryz.prog w = .ok (.slice (some ⟨w.heap.size, 0, none⟩) 0 n) (w.alloc (.cells (madeCells (Value.cells (.string ByteArray.empty)) n) 9)) := run_makeG elS_ok
  go_enter Tryz.func84, Tryz.ntmps84
  go_wp2_with fail
  refine W.mono ?_
  rintro e w1 ⟨v, rfl, o1, nv1, f1⟩
  obtain ⟨ov, cv, hvf⟩ := o1.form
  have hPl : P.length ≤ 1000 := Nat.le_trans HU.out hN
  have MK1 := MK w1 P.length hPl
  have O1 : Hid (OwnG elI w1 v P) := o1
  have F1 : Hid (Fr no w w1) := f1
  have HLn : Hid (P.length ≤ 1000) := hPl
  clear o1 nv1 f1 MK
  subst hvf
  generalize hpl : P.length = n at *
  have OM : Hid (OwnG elS (w1.alloc (.cells (madeCells (Value.cells (.string ByteArray.empty)) n) 9)) (.slice (some ⟨w1.heap.size, 0, none⟩) 0 n) []) := own_made (K := elS) w1 n (by unfold maxLen; omega)
  generalize hmc : madeCells (Value.cells (.string ByteArray.empty)) n = mc at *
  go_wp2_with fail
  go_loopw [9, 34] (fun v i wr => ∃ (k : Nat), i = .int .i64 (k : Int) ∧ k ≤ n ∧ OwnG elS wr v ((P.take k).map (nameAt N)) ∧ NewV w1 v ∧ Fr no w1 wr) (fun _ i _ => n - (intOf i).toNat)
  case atStart => exact ⟨0, rfl, Nat.zero_le _, OM.out, fun k hk => by simp only [Value.ownBlock, Option.some.injEq] at hk; omega, (Fr.refl no w1).alloc _ _⟩
  case round =>
   obtain ⟨k, rfl, hk, ho, hv, hf⟩ := hrel
   have HO : Hid (OwnG elS wr u9 ((P.take k).map (nameAt N))) := ho
   have HV : Hid (NewV w1 u9) := hv
   have HF : Hid (Fr no w1 wr) := hf
   by_cases hlt : k < n
   · obtain ⟨x, hx⟩ : ∃ x, P[k]? = some x := ⟨_, List.getElem?_eq_getElem (by omega)⟩
     have HX : Hid (P[k]? = some x) := hx
     have hxN : x < N.length := HL.out x (List.mem_of_getElem? hx)
     obtain ⟨ad, cp2, e2, -, -, -, hit⟩ := (O1.out.keep hf).sl
     simp only [Value.slice.injEq] at e2
     obtain ⟨rfl, -, -⟩ := e2
     obtain ⟨b, off, rfl, hc⟩ := hit k x hx
     have hc' : wr.cell? ⟨b, off + k, none⟩ = some (.int .i64 (x : Int)) := hc
     obtain ⟨vn, va, m, D, g1, g2, g3, -⟩ := HBK.out.keep (F1.out.and hf)
     obtain ⟨d0, -, -⟩ := cells3 g1
     obtain ⟨ad2, cp3, rfl, hcap2, hmx2, -, hit2⟩ := g2.sl
     have hnx : N[x]? = some (nameAt N x) := by unfold nameAt; rw [List.getD_eq_getElem?_getD, List.getElem?_eq_getElem hxN]; rfl
     obtain ⟨b2, off2, rfl, hd⟩ := hit2 x _ hnx
     have hd' : wr.cell? ⟨b2, off2 + x, none⟩ = some (.string (nameAt N x)) := hd
     have hxi : (x : Int) < (N.length : Int) := by omega
     have hki : (k : Int) < (n : Int) := by omega
     have LEM : Hid (∀ v' w2, OwnG elS w2 v' ((P.take k).map (nameAt N) ++ [nameAt N x]) → Sp u9 (wr.alloc (.cells #[.string (nameAt N x)] 9)) v' w2 → Hid (OwnG elS w2 v' ((P.take (k + 1)).map (nameAt N))) ∧ Hid (NewV w1 v') ∧ Hid (Fr no w1 w2)) := by
      intro v' w2 o2 s2
      obtain ⟨nv2, f2⟩ := HV.out.step (HF.out.alloc _ _) s2
      refine ⟨?_, nv2, f2⟩
      show OwnG _ _ _ _
      rw [take_next P k x HX.out, List.map_append]
      exact o2
     clear ho hv hf hx hit hit2 hc hd g1 g2 g3 hnx hcap2
     unfold maxLen at hmx2
     generalize nameAt N x = nm at *
     have hkl : Hid (((P.take k).map (nameAt N)).length + 1 ≤ 1000000) := by show _ ≤ _; simp; omega
     go_wp2_with (first | (at_builtin; refine wpList_apdG elS_ok _ rfl rfl _ _ rfl u9 _ rfl (HO.out.keep ((Fr.refl no wr).alloc _ _)) _ rfl [nm] (srcG_one elS_ok wr nm) hkl.out ?_; intro v' w2 o2 s2; obtain ⟨O2, N2, F2⟩ := LEM.out v' w2 o2 s2; clear o2 s2) | go_in)
     go_roundw
     case rel => exact ⟨k + 1, by go_num, by omega, O2.out, N2.out, F2.out⟩
     case measure => simp [intOf]; omega
   · have hkl : k = n := by omega
     subst hkl
     clear ho hv hf
     go_wp2_with fail
     go_ret
     refine ⟨_, rfl, ?_, fun j hj => ?_, F1.out.and HF.out⟩
     · rw [HA.out]
       have := HO.out
       rwa [← hpl, List.take_length] at this
     · have := HV.out j hj
       have := F1.out.size
       omega
def words (t : Ty) : Int := if t.k = 2 then 2 else if t.k = 1 ∨ t.k = 3 ∨ t.k = 4 ∨ t.k = 5 then 1 else 0
theorem words_any (w : World) (t : Ty) : Calls Tryz.prog 107 #[tyV t] w fun e w' => e = .returned (.int .i64 (words t)) ∧ Fr no w w' := by
 obtain ⟨k, c⟩ := t
 unfold tyV
 have HF : Hid (Fr no w (w.alloc (.cells #[.int .i64 k, .string c] 44))) := (Fr.refl no w).alloc _ _
 by_cases h2 : k = 2
 · subst h2
   have HE : Hid (words ⟨2, c⟩ = 2) := rfl
   go_enter Tryz.func107, Tryz.ntmps107
   go_wp2_with fail
   go_ret
   rw [HE.out]
   exact ⟨rfl, HF.out⟩
 have q2 : (k == 2) = false := by simpa using h2
 by_cases h1 : k = 1
 · subst h1
   have HE : Hid (words ⟨1, c⟩ = 1) := rfl
   go_enter Tryz.func107, Tryz.ntmps107
   go_wp2_with fail
   go_ret
   rw [HE.out]
   exact ⟨rfl, HF.out⟩
 have q1 : (k == 1) = false := by simpa using h1
 by_cases h3 : k = 3
 · subst h3
   have HE : Hid (words ⟨3, c⟩ = 1) := rfl
   go_enter Tryz.func107, Tryz.ntmps107
   go_wp2_with fail
   go_ret
   rw [HE.out]
   exact ⟨rfl, HF.out⟩
 have q3 : (k == 3) = false := by simpa using h3
 by_cases h4 : k = 4
 · subst h4
   have HE : Hid (words ⟨4, c⟩ = 1) := rfl
   go_enter Tryz.func107, Tryz.ntmps107
   go_wp2_with fail
   go_ret
   rw [HE.out]
   exact ⟨rfl, HF.out⟩
 have q4 : (k == 4) = false := by simpa using h4
 by_cases h5 : k = 5
 · subst h5
   have HE : Hid (words ⟨5, c⟩ = 1) := rfl
   go_enter Tryz.func107, Tryz.ntmps107
   go_wp2_with fail
   go_ret
   rw [HE.out]
   exact ⟨rfl, HF.out⟩
 have q5 : (k == 5) = false := by simpa using h5
 have HE : Hid (words ⟨k, c⟩ = 0) := by show _ = _; unfold words; rw [if_neg h2, if_neg (by simp; omega)]
 go_enter Tryz.func107, Tryz.ntmps107
 go_wp2_with fail
 go_ret
 rw [HE.out]
 exact ⟨rfl, HF.out⟩
end H
end Go.Proofs.YtalgjpmaafooeaaGreatDoor
/- What New tells. -/
namespace Go.Proofs.YtalgjpmaafooeaaGreatDoor
open Go.ChangeShapes Go.WideShapes Go.ChangeAt Go.RowKit
theorem Fr.allocMap {S : Nat → Prop} {a w : World} (h : Fr S a w) : Fr S a (w.alloc (.map #[] 0)) := by
 refine ⟨h.os, h.output, Nat.le_trans h.size (by show w.heap.size ≤ (w.heap.push _).size; simp), fun k hk hs => (Below.heap_alloc w _ k (Nat.lt_of_lt_of_le hk h.size)).trans (h.block k hk hs), fun x hx => ?_⟩
 rw [← h.frozen x hx]
 have := Below.heap_alloc w (.map #[] 0) x.block (Nat.lt_of_lt_of_le hx h.size)
 unfold World.frozen?
 rw [this]
namespace H
theorem turned_fr {w w' : World} {m : Nat} (h : w.mapTurned w' m) : Fr (fun k => k = m) w w' :=
 ⟨h.grown.os, h.grown.output, h.grown.size, fun k hk hs => h.grown.block k hk (by simpa using hs), fun a _ => h.frozen a⟩
def addN (N : List ByteArray) : List ByteArray → Int × List ByteArray
 | [] => (0, N)
 | x :: l => if isName x = false then (50, N) else if (ix x N).isSome = true then (53, N) else addN (N ++ [x]) l
theorem HB.parts {c : Nat} {w : World} {p : Nat} {N : List ByteArray} {A : List Nat} (h : HB c w p N A) : ∃ vn va m D, w.heap[p]? = some (.cells #[vn, .map (some m), va] 116 (0, 0)) ∧ OwnG elS w vn N ∧ OwnG elI w va A ∧ Owns w m N.length D ∧ MapOf D N ∧
 c ≤ p ∧ c ≤ m ∧ (∀ k, vn.ownBlock = some k → c ≤ k) ∧ (∀ k, va.ownBlock = some k → c ≤ k) ∧ p ≠ m ∧ vn.ownBlock ≠ some p ∧ va.ownBlock ≠ some p ∧ vn.ownBlock ≠ some m ∧ va.ownBlock ≠ some m ∧ (∀ k, vn.ownBlock = some k → va.ownBlock ≠ some k) := by
 obtain ⟨vn, va, m, D, h1, h2, h3, h4, h5, h6, h7, h8, h9⟩ := h
 obtain ⟨es, ck, hm, -⟩ := id h4
 refine ⟨vn, va, m, D, h1, h2, h3, h4, h5, h6, h7, h8, h9, ?_, ?_, ?_, ?_, ?_, ?_⟩
 · rintro rfl; rw [h1] at hm; simp at hm
 · intro e; obtain ⟨cur, hc⟩ := h2.tag e; rw [h1] at hc; simp [elS] at hc
 · intro e; obtain ⟨cur, hc⟩ := h3.tag e; rw [h1] at hc; simp [elI] at hc
 · intro e; obtain ⟨cur, hc⟩ := h2.tag e; rw [hm] at hc; simp at hc
 · intro e; obtain ⟨cur, hc⟩ := h3.tag e; rw [hm] at hc; simp at hc
 · intro k e e'
   obtain ⟨cur, hc⟩ := h2.tag e
   obtain ⟨cur', hc'⟩ := h3.tag e'
   rw [hc] at hc'
   simp [elS, elI] at hc'
theorem set_first {w : World} {p : Nat} {x y z u : Value} {t : TypeId} (h : w.heap[p]? = some (.cells #[x, y, z] t (0, 0))) : (w.setCell ⟨p, 0, none⟩ u).heap[p]? = some (.cells #[u, y, z] t (0, 0)) := by
 unfold World.setCell
 rw [Array.getElem?_modify, if_pos rfl, h]
 rfl
theorem set_third {w : World} {p : Nat} {x y z u : Value} {t : TypeId} (h : w.heap[p]? = some (.cells #[x, y, z] t (0, 0))) : (w.setCell ⟨p, 2, none⟩ u).heap[p]? = some (.cells #[x, y, u] t (0, 0)) := by
 unfold World.setCell
 rw [Array.getElem?_modify, if_pos rfl, h]
 rfl
theorem frozen3 {w : World} {p : Nat} {x y z : Value} {t : TypeId} (h : w.heap[p]? = some (.cells #[x, y, z] t (0, 0))) : w.frozen? ⟨p, 0, none⟩ = false ∧ w.frozen? ⟨p, 2, none⟩ = false := by
 refine ⟨?_, ?_⟩ <;> simp [World.frozen?, h]
theorem hb_name {w0 wr : World} {p : Nat} {M : List ByteArray} {A : List Nat} (h : HB w0.heap.size wr p M A) (hf : Fr no w0 wr) (x : ByteArray) (hx : ix x M = none) (hs : x.size ≤ 1099511627776) (hM : M.length ≤ 1000) :
 ∃ m on cn w1, (wr.cell? ⟨p, 0, none⟩ = some (.slice on M.length cn) ∧ wr.cell? ⟨p, 1, none⟩ = some (.map (some m))) ∧
  (Instr.mapUpdate 114 (.map (some m)) (.string x) (.int .i64 (M.length : Int))).run Tryz.prog wr.drew = .ok () w1 ∧ w1.cell? ⟨p, 0, none⟩ = some (.slice on M.length cn) ∧
  OwnG elS (w1.alloc (.cells #[.string x] 9)) (.slice on M.length cn) M ∧
  ∀ v' w2, OwnG elS w2 v' (M ++ [x]) → Sp (.slice on M.length cn) (w1.alloc (.cells #[.string x] 9)) v' w2 →
   w2.cell? ⟨p, 0, none⟩ = some (.slice on M.length cn) ∧ w2.frozen? ⟨p, 0, none⟩ = false ∧ HB w0.heap.size (w2.setCell ⟨p, 0, none⟩ v') p (M ++ [x]) A ∧ Fr no w0 (w2.setCell ⟨p, 0, none⟩ v') := by
 obtain ⟨vn, va, m, D, h1, h2, h3, h4, h5, h6, h7, h8, h9, n1, n2, n3, n4, n5, n6⟩ := h.parts
 obtain ⟨on, cn, rfl⟩ := h2.form
 have h4d : Owns wr.drew m M.length D := h4.drew
 obtain ⟨w1, hrun, own1, turn1⟩ := h4d.store keyed Tryz.underlying114 (by unfold maxLen; omega) (ky_key hs) (plainElem_int (a := (M.length : Int)) Tryz.underlying3 (WalkArith.wf_i64 (by omega)))
 have t1 : Fr (fun k => k = m) wr w1 := ((Fr.refl (fun k => k = m) wr).drew).trans (turned_fr turn1) (fun _ _ e => e) (fun _ _ e => e)
 have f1 : Fr no w0 w1 := hf.new t1 (fun i hi e => by omega)
 have a1 : Fr (fun k => k = m) wr (w1.alloc (.cells #[.string x] 9)) := t1.alloc _ _
 have p1 : w1.heap[p]? = some (.cells #[.slice on M.length cn, .map (some m), va] 116 (0, 0)) := t1.heap h1 n1
 have pa : (w1.alloc (.cells #[.string x] 9)).heap[p]? = some (.cells #[.slice on M.length cn, .map (some m), va] 116 (0, 0)) := a1.heap h1 n1
 refine ⟨m, on, cn, w1, ⟨(cells3 h1).1, (cells3 h1).2.1⟩, hrun, (cells3 p1).1, h2.kept a1 (fun k hk e => n4 (by rw [hk, e])), fun v' w2 o2 s2 => ?_⟩
 have p2 : w2.heap[p]? = some (.cells #[.slice on M.length cn, .map (some m), va] 116 (0, 0)) := s2.1.heap pa n2
 have own2 : Owns w2 m (M.length + 1) (D.put (ky x) (.lit (.int .i64 (M.length : Int)))) := owns_keep (own1.alloc _) s2.1 n4
 have va2 : OwnG elI w2 va A := (h3.kept a1 (fun k hk e => n5 (by rw [hk, e]))).kept s2.1 (fun k hk e => n6 k e hk)
 have hsz : w0.heap.size ≤ (w1.alloc (.cells #[.string x] 9)).heap.size := (f1.alloc _ _).size
 have f2 : Fr no w0 w2 := (f1.alloc _ _).new s2.1 (fun i hi e => by have := h8 i e; omega)
 have nv : ∀ k, v'.ownBlock = some k → w0.heap.size ≤ k := fun k hk => by
  by_cases hlt : k < (w1.alloc (.cells #[.string x] 9)).heap.size
  · exact h8 k (s2.2 k hlt hk)
  · omega
 have hv'p : v'.ownBlock ≠ some p := fun e => by obtain ⟨cur, hc⟩ := o2.tag e; rw [p2] at hc; simp [elS] at hc
 have fs : Fr (fun k => k = p) w2 (w2.setCell ⟨p, 0, none⟩ v') := (Fr.refl (fun k => k = p) w2).setCell (p := ⟨p, 0, none⟩) (fun _ => rfl) v'
 refine ⟨(cells3 p2).1, (frozen3 p2).1, ⟨v', va, m, _, set_first p2, o2.kept fs (fun k hk e => hv'p (by rw [hk, e])), va2.kept fs (fun k hk e => n3 (by rw [hk, e])), ?_, mapOf_put h5 hx, h6, h7, nv, h9⟩, f2.new fs (fun i hi e => by omega)⟩
 have := owns_keep own2 fs (fun e => n1 e.symm)
 simpa using this
set_option maxRecDepth 100000 in
set_option maxHeartbeats 1000000 in
theorem addNames_any (w0 w : World) (hw : Fr no w0 w) (p : Nat) (N : List ByteArray) (A : List Nat) (h : HB w0.heap.size w p N A) (v : Value) (l : List ByteArray) (hl : SlG elS w0 v l) (hs : ∀ x ∈ l, x.size ≤ 1099511627776) (hN : N.length + l.length ≤ 1000) :
 Calls Tryz.prog 43 #[.pointer (some ⟨p, 0, none⟩), v] w fun e w' => e = .returned (.int .i64 (addN N l).1) ∧ HB w0.heap.size w' p (addN N l).2 A ∧ Fr no w0 w' := by
 have HH : Hid (HB w0.heap.size w p N A) := h
 have HW : Hid (Fr no w0 w) := hw
 have HL : Hid (SlG elS w0 v l) := hl
 obtain ⟨ad, cp, rfl, hcap, hmx, -, -⟩ := id hl
 unfold maxLen at hmx
 have HS : Hid (∀ x ∈ l, x.size ≤ 1099511627776) := hs
 clear h hw hl hs
 generalize hln : l.length = n at *
 go_enter Tryz.func43, Tryz.ntmps43
 go_wp2_with fail
 go_loopw [9] (fun i wr => ∃ (k : Nat) (M : List ByteArray), i = .int .i64 (k : Int) ∧ k ≤ n ∧ HB w0.heap.size wr p M A ∧ Fr no w0 wr ∧ addN N l = addN M (l.drop k) ∧ M.length ≤ N.length + k) (fun i _ => n - (intOf i).toNat)
 case atStart => exact ⟨0, N, rfl, Nat.zero_le _, HH.out, HW.out, rfl, Nat.le_refl _⟩
 case round =>
  obtain ⟨k, M, rfl, hk, hh, hf, he, hM⟩ := hrel
  have H1 : Hid (HB w0.heap.size wr p M A) := hh
  have F1 : Hid (Fr no w0 wr) := hf
  have HE : Hid (addN N l = addN M (l.drop k)) := he
  have HM : Hid (M.length ≤ N.length + k) := hM
  clear hh hf he hM
  by_cases hlt : k < n
  · obtain ⟨x, hx⟩ : ∃ x, l[k]? = some x := ⟨_, List.getElem?_eq_getElem (by omega)⟩
    have hdr : Hid (l.drop k = x :: l.drop (k + 1)) := by
     obtain ⟨hk', e⟩ := List.getElem?_eq_some_iff.1 hx
     show _ = _
     rw [← e, List.getElem_cons_drop hk']
    obtain ⟨ad', cp', e', -, -, -, hit⟩ := HL.out.keep F1.out
    simp only [Value.slice.injEq] at e'
    obtain ⟨rfl, -, -⟩ := e'
    obtain ⟨b, off, rfl, hc⟩ := hit k x hx
    have hc' : wr.cell? ⟨b, off + k, none⟩ = some (.string x) := hc
    have hki : (k : Int) < (n : Int) := by omega
    have hxs := HS.out x (List.mem_of_getElem? hx)
    have I := isName_any wr x hxs
    have Hs := has_any wr p M A H1.out x hxs
    clear hit hc hx
    cases hn : isName x with
    | false =>
     have HA : Hid (addN N l = (50, M)) := by show _ = _; rw [HE.out, hdr.out]; unfold addN; rw [if_pos hn]
     rw [hn] at I
     clear hn Hs
     go_wp2_with fail
     refine I.mono ?_
     rintro e w1 ⟨rfl, rfl⟩
     go_wp2_with fail
     go_ret
     rw [HA.out]
     exact ⟨rfl, H1.out, F1.out⟩
    | true =>
     rw [hn] at I
     cases hi : ix x M with
     | some i =>
      have HA : Hid (addN N l = (53, M)) := by show _ = _; rw [HE.out, hdr.out]; unfold addN; rw [if_neg (by simp [hn]), if_pos (by rw [hi]; rfl)]
      rw [hi] at Hs
      simp only [Option.isSome_some] at Hs
      clear hn hi
      go_wp2_with fail
      refine I.mono ?_
      rintro e w1 ⟨rfl, rfl⟩
      go_wp2_with fail
      refine Hs.mono ?_
      rintro e w1 ⟨rfl, rfl⟩
      go_wp2_with fail
      go_ret
      rw [HA.out]
      exact ⟨rfl, H1.out, F1.out⟩
     | none =>
      have HA : Hid (addN N l = addN (M ++ [x]) (l.drop (k + 1))) := by show _ = _; rw [HE.out, hdr.out]; unfold addN; rw [if_neg (by simp [hn]), if_neg (by rw [hi]; simp)]; cases l.drop (k + 1) <;> rfl
      obtain ⟨m, on, cn, w1, ⟨d0, d1⟩, hrun, d2, ho, hstep⟩ := hb_name H1.out F1.out x hi hxs (by have := HM.out; omega)
      have HO : Hid (OwnG elS (w1.alloc (.cells #[.string x] 9)) (.slice on M.length cn) M) := ho
      have HT : Hid (∀ v' w2, OwnG elS w2 v' (M ++ [x]) → Sp (.slice on M.length cn) (w1.alloc (.cells #[.string x] 9)) v' w2 → ∃ ov q cv, v' = .slice ov q cv ∧ w2.cell? ⟨p, 0, none⟩ = some (.slice on M.length cn) ∧ w2.frozen? ⟨p, 0, none⟩ = false ∧ Hid (HB w0.heap.size (w2.setCell ⟨p, 0, none⟩ v') p (M ++ [x]) A) ∧ Hid (Fr no w0 (w2.setCell ⟨p, 0, none⟩ v'))) := by
       intro v' w2 o2 s2
       obtain ⟨ov, cv, e⟩ := o2.form
       exact ⟨ov, _, cv, e, hstep v' w2 o2 s2⟩
      rw [hi] at Hs
      simp only [Option.isSome_none] at Hs
      have hM1 : Hid (M.length + 1 ≤ 1000000) := by have := HM.out; show _ ≤ _; omega
      clear hn hi ho hstep
      generalize hml : M.length = ml at *
      go_wp2_with fail
      refine I.mono ?_
      rintro e w1' ⟨rfl, rfl⟩
      go_wp2_with fail
      refine Hs.mono ?_
      rintro e w1' ⟨rfl, rfl⟩
      go_wp2_with fail
      go_region
      go_wp2_with (first | (at_builtin; refine wpList_apdG elS_ok _ rfl rfl _ _ rfl (.slice on ml cn) M rfl HO.out _ rfl [x] (srcG_one elS_ok w1 x) (by rw [hml]; exact hM1.out) ?_; intro v' w2 o2 s2; obtain ⟨ov, q, cv, rfl, e0, z0, HB2, F2⟩ := HT.out v' w2 o2 s2; clear o2 s2) | go_in)
      go_roundw
      case rel => exact ⟨k + 1, M ++ [x], by go_num, by omega, HB2.out, F2.out, HA.out, by have := HM.out; simp; omega⟩
      case measure => simp [intOf]; omega
  · have hkl : k = n := by omega
    subst hkl
    have HA : Hid (addN N l = (0, M)) := by
     show _ = _
     rw [HE.out, List.drop_eq_nil_of_le (by omega)]
     rfl
    go_wp2_with fail
    go_ret
    rw [HA.out]
    exact ⟨rfl, H1.out, F1.out⟩
def obj : ByteArray := ⟨#[79, 98, 106, 101, 99, 116]⟩
def fault : ByteArray := ⟨#[70, 97, 117, 108, 116]⟩
def supOf (s : ByteArray) : ByteArray := if s.size = 0 then obj else s
def addS (N : List ByteArray) (A : List Nat) : List ByteArray → Int × List Nat
 | [] => (0, A)
 | x :: l => match ix (supOf x) N with
  | none => (70, A)
  | some i => addS N (A ++ [i]) l
theorem hb_super {w0 wr : World} {p : Nat} {N : List ByteArray} {A : List Nat} (h : HB w0.heap.size wr p N A) (hf : Fr no w0 wr) (i : Nat) :
 ∃ oa ca, wr.cell? ⟨p, 2, none⟩ = some (.slice oa A.length ca) ∧ OwnG elI (wr.alloc (.cells #[.int .i64 (i : Int)] 3)) (.slice oa A.length ca) A ∧
  ∀ v' w2, OwnG elI w2 v' (A ++ [i]) → Sp (.slice oa A.length ca) (wr.alloc (.cells #[.int .i64 (i : Int)] 3)) v' w2 → ∃ ov q cv, v' = .slice ov q cv ∧
   w2.cell? ⟨p, 2, none⟩ = some (.slice oa A.length ca) ∧ w2.frozen? ⟨p, 2, none⟩ = false ∧ Hid (HB w0.heap.size (w2.setCell ⟨p, 2, none⟩ v') p N (A ++ [i])) ∧ Hid (Fr no w0 (w2.setCell ⟨p, 2, none⟩ v')) := by
 obtain ⟨vn, va, m, D, h1, h2, h3, h4, h5, h6, h7, h8, h9, n1, n2, n3, n4, n5, n6⟩ := h.parts
 obtain ⟨oa, ca, rfl⟩ := h3.form
 have a1 : Fr no wr (wr.alloc (.cells #[.int .i64 (i : Int)] 3)) := (Fr.refl no wr).alloc _ _
 have pa : (wr.alloc (.cells #[.int .i64 (i : Int)] 3)).heap[p]? = some (.cells #[vn, .map (some m), .slice oa A.length ca] 116 (0, 0)) := a1.heap h1 (fun f => f)
 refine ⟨oa, ca, (cells3 h1).2.2, h3.keep a1, fun v' w2 o2 s2 => ?_⟩
 obtain ⟨ov, cv, e⟩ := o2.form
 have p2 : w2.heap[p]? = some (.cells #[vn, .map (some m), .slice oa A.length ca] 116 (0, 0)) := s2.1.heap pa n3
 have own2 : Owns w2 m N.length D := owns_keep (h4.alloc _) s2.1 n5
 have vn2 : OwnG elS w2 vn N := (h2.keep a1).kept s2.1 (fun k hk e => n6 k hk e)
 have hsz : w0.heap.size ≤ (wr.alloc (.cells #[.int .i64 (i : Int)] 3)).heap.size := (hf.alloc _ _).size
 have f2 : Fr no w0 w2 := (hf.alloc _ _).new s2.1 (fun j hj e => by have := h9 j e; omega)
 have nv : ∀ k, v'.ownBlock = some k → w0.heap.size ≤ k := fun k hk => by
  by_cases hlt : k < (wr.alloc (.cells #[.int .i64 (i : Int)] 3)).heap.size
  · exact h9 k (s2.2 k hlt hk)
  · omega
 have hv'p : v'.ownBlock ≠ some p := fun e => by obtain ⟨cur, hc⟩ := o2.tag e; rw [p2] at hc; simp [elI] at hc
 have fs : Fr (fun k => k = p) w2 (w2.setCell ⟨p, 2, none⟩ v') := (Fr.refl (fun k => k = p) w2).setCell (p := ⟨p, 2, none⟩) (fun _ => rfl) v'
 exact ⟨ov, _, cv, e, (cells3 p2).2.2, (frozen3 p2).2, ⟨vn, v', m, D, set_third p2, vn2.kept fs (fun k hk e => n2 (by rw [hk, e])), o2.kept fs (fun k hk e => hv'p (by rw [hk, e])), owns_keep own2 fs (fun e => n1 e.symm), h5, h6, h7, h8, nv⟩, f2.new fs (fun i hi e => by omega)⟩
theorem obj_data : obj = { data := #[79, 98, 106, 101, 99, 116] } := rfl
theorem sup_empty {x : ByteArray} (h : x.toList = []) : supOf x = obj := by unfold supOf; rw [if_pos ((toList_nil x).1 h)]
theorem sup_self {x : ByteArray} (h : x.toList ≠ []) : supOf x = x := by unfold supOf; rw [if_neg (fun e => h ((toList_nil x).2 e))]
set_option maxRecDepth 100000 in
set_option maxHeartbeats 1000000 in
theorem addSupers_any (w0 w : World) (hw : Fr no w0 w) (p : Nat) (N : List ByteArray) (A : List Nat) (h : HB w0.heap.size w p N A) (v : Value) (l : List ByteArray) (hl : SlG elS w0 v l) (hs : ∀ x ∈ l, x.size ≤ 1099511627776) (hN : A.length + l.length ≤ 1000) :
 Calls Tryz.prog 44 #[.pointer (some ⟨p, 0, none⟩), v] w fun e w' => e = .returned (.int .i64 (addS N A l).1) ∧ HB w0.heap.size w' p N (addS N A l).2 ∧ Fr no w0 w' := by
 have HH : Hid (HB w0.heap.size w p N A) := h
 have HW : Hid (Fr no w0 w) := hw
 have HL : Hid (SlG elS w0 v l) := hl
 obtain ⟨ad, cp, rfl, hcap, hmx, -, -⟩ := id hl
 unfold maxLen at hmx
 have HS : Hid (∀ x ∈ l, x.size ≤ 1099511627776) := hs
 clear h hw hl hs
 generalize hln : l.length = n at *
 go_enter Tryz.func44, Tryz.ntmps44
 go_wp2_with fail
 go_loopw [11] (fun i wr => ∃ (k : Nat) (B : List Nat), i = .int .i64 (k : Int) ∧ k ≤ n ∧ HB w0.heap.size wr p N B ∧ Fr no w0 wr ∧ addS N A l = addS N B (l.drop k) ∧ B.length ≤ A.length + k) (fun i _ => n - (intOf i).toNat)
 case atStart => exact ⟨0, A, rfl, Nat.zero_le _, HH.out, HW.out, rfl, Nat.le_refl _⟩
 case round =>
  obtain ⟨k, B, rfl, hk, hh, hf, he, hM⟩ := hrel
  have H1 : Hid (HB w0.heap.size wr p N B) := hh
  have F1 : Hid (Fr no w0 wr) := hf
  have HE : Hid (addS N A l = addS N B (l.drop k)) := he
  have HM : Hid (B.length ≤ A.length + k) := hM
  clear hh hf he hM
  by_cases hlt : k < n
  · obtain ⟨x, hx⟩ : ∃ x, l[k]? = some x := ⟨_, List.getElem?_eq_getElem (by omega)⟩
    have hdr : Hid (l.drop k = x :: l.drop (k + 1)) := by
     obtain ⟨hk', e⟩ := List.getElem?_eq_some_iff.1 hx
     show _ = _
     rw [← e, List.getElem_cons_drop hk']
    obtain ⟨ad', cp', e', -, -, -, hit⟩ := HL.out.keep F1.out
    simp only [Value.slice.injEq] at e'
    obtain ⟨rfl, -, -⟩ := e'
    obtain ⟨b, off, rfl, hc⟩ := hit k x hx
    have hc' : wr.cell? ⟨b, off + k, none⟩ = some (.string x) := hc
    have hki : (k : Int) < (n : Int) := by omega
    have hxs := HS.out x (List.mem_of_getElem? hx)
    have hss : (supOf x).size ≤ 1099511627776 := by
     unfold supOf
     split
     · decide
     · exact hxs
    obtain ⟨vn, va, m, D, h1, h2, h3, h4, h5, -⟩ := H1.out
    obtain ⟨-, d1, -⟩ := cells3 h1
    obtain ⟨c, hrun, hcv⟩ := look h4 h5 (supOf x) hss
    clear hit hc hx h1 h2 h3 h4 h5 vn va
    cases hi : ix (supOf x) N with
    | none =>
     have HA : Hid (addS N A l = (70, B)) := by show _ = _; rw [HE.out, hdr.out]; unfold addS; rw [hi]
     rw [hi] at hrun
     simp only [Option.isSome_none] at hrun
     clear hi hcv
     by_cases hem : x.toList = []
     · rw [sup_empty hem, obj_data] at hrun
       go_wp2_with fail
       go_ret
       rw [HA.out]
       exact ⟨rfl, H1.out, F1.out⟩
     · rw [sup_self hem] at hrun
       have hne : x.toList.isEmpty = false := by simpa using hem
       go_wp2_with fail
       go_ret
       rw [HA.out]
       exact ⟨rfl, H1.out, F1.out⟩
    | some i =>
     have HA : Hid (addS N A l = addS N (B ++ [i]) (l.drop (k + 1))) := by show _ = _; rw [HE.out, hdr.out]; conv => lhs; unfold addS; rw [hi]
     obtain rfl := hcv i hi
     rw [hi] at hrun
     simp only [Option.isSome_some] at hrun
     obtain ⟨oa, ca, d2, ho, hstep⟩ := hb_super H1.out F1.out i
     have HO : Hid (OwnG elI (wr.alloc (.cells #[.int .i64 (i : Int)] 3)) (.slice oa B.length ca) B) := ho
     have HT : Hid (∀ v' w2, OwnG elI w2 v' (B ++ [i]) → Sp (.slice oa B.length ca) (wr.alloc (.cells #[.int .i64 (i : Int)] 3)) v' w2 → ∃ ov q cv, v' = .slice ov q cv ∧ w2.cell? ⟨p, 2, none⟩ = some (.slice oa B.length ca) ∧ w2.frozen? ⟨p, 2, none⟩ = false ∧ Hid (HB w0.heap.size (w2.setCell ⟨p, 2, none⟩ v') p N (B ++ [i])) ∧ Hid (Fr no w0 (w2.setCell ⟨p, 2, none⟩ v'))) := hstep
     have hM1 : Hid (B.length + 1 ≤ 1000000) := by have := HM.out; show _ ≤ _; omega
     clear hi hcv ho hstep
     generalize hml : B.length = ml at *
     by_cases hem : x.toList = []
     · rw [sup_empty hem, obj_data] at hrun
       go_wp2_with (first | (at_builtin; refine wpList_apdG elI_ok _ rfl rfl _ _ rfl (.slice oa ml ca) B rfl HO.out _ rfl [i] (srcG_one elI_ok wr i) (by rw [hml]; exact hM1.out) ?_; intro v' w2 o2 s2; obtain ⟨ov, q, cv, rfl, e0, z0, HB2, F2⟩ := HT.out v' w2 o2 s2; clear o2 s2) | go_in)
       go_roundw
       case rel => exact ⟨k + 1, B ++ [i], by go_num, by omega, HB2.out, F2.out, HA.out, by have := HM.out; simp; omega⟩
       case measure => simp [intOf]; omega
     · rw [sup_self hem] at hrun
       have hne : x.toList.isEmpty = false := by simpa using hem
       go_wp2_with (first | (at_builtin; refine wpList_apdG elI_ok _ rfl rfl _ _ rfl (.slice oa ml ca) B rfl HO.out _ rfl [i] (srcG_one elI_ok wr i) (by rw [hml]; exact hM1.out) ?_; intro v' w2 o2 s2; obtain ⟨ov, q, cv, rfl, e0, z0, HB2, F2⟩ := HT.out v' w2 o2 s2; clear o2 s2) | go_in)
       go_roundw
       case rel => exact ⟨k + 1, B ++ [i], by go_num, by omega, HB2.out, F2.out, HA.out, by have := HM.out; simp; omega⟩
       case measure => simp [intOf]; omega
  · have hkl : k = n := by omega
    subst hkl
    have HA : Hid (addS N A l = (0, B)) := by
     show _ = _
     rw [HE.out, List.drop_eq_nil_of_le (by omega)]
     rfl
    go_wp2_with fail
    go_ret
    rw [HA.out]
    exact ⟨rfl, H1.out, F1.out⟩
theorem ring_no {n : Nat} {A : List Nat} (h : ∀ i, i < n → (up A n i).2 = true) : ring n A = false := by
 unfold ring
 rw [List.any_eq_false]
 intro i hi
 rw [h i (List.mem_range.1 hi)]
 simp
theorem ring_yes {n : Nat} {A : List Nat} {i : Nat} (hi : i < n) (h : (up A n i).2 = false) : ring n A = true := by
 unfold ring
 rw [List.any_eq_true]
 exact ⟨i, List.mem_range.2 hi, by rw [h]; rfl⟩
set_option maxRecDepth 100000 in
theorem hasRing_any {c : Nat} (w : World) (p : Nat) (N : List ByteArray) (A : List Nat) (h : HB c w p N A) (hA : Fine N.length A) (hN : N.length ≤ 1000) :
 Calls Tryz.prog 45 #[.pointer (some ⟨p, 0, none⟩)] w fun e w' => e = .returned (.bool (ring N.length A)) ∧ Fr no w w' := by
 have HH : Hid (HB c w p N A) := h
 obtain ⟨vn, va, m, D, h1, h2, -⟩ := id h
 obtain ⟨d0, -, -⟩ := cells3 h1
 obtain ⟨on, cn, rfl⟩ := h2.form
 clear h h1 h2
 have HWY : Hid (∀ w' i0, Fr no w w' → i0 < N.length → Calls Tryz.prog 80 #[.pointer (some ⟨p, 0, none⟩), .int .i64 (i0 : Int)] w' fun e w'' => ∃ v, e = .returned (.tuple #[v, .bool (up A N.length i0).2]) ∧ OwnG elI w'' v (up A N.length i0).1 ∧ NewV w' v ∧ Fr no w' w'') :=
  fun w' i0 f hi => way_any w' p N A (HH.out.keep f) hA hN i0 hi
 generalize hn : N.length = n at *
 go_enter Tryz.func45, Tryz.ntmps45
 go_wp2_with fail
 go_loopw [11] (fun i wr => ∃ (k : Nat), i = .int .i64 (k : Int) ∧ k ≤ n ∧ Fr no w wr ∧ ∀ j, j < k → (up A n j).2 = true) (fun i _ => n - (intOf i).toNat)
 case atStart => exact ⟨0, rfl, Nat.zero_le _, Fr.refl _ _, fun j hj => absurd hj (by omega)⟩
 case round =>
  obtain ⟨k, rfl, hk, hf, hall⟩ := hrel
  have F1 : Hid (Fr no w wr) := hf
  have HA : Hid (∀ j, j < k → (up A n j).2 = true) := hall
  clear hall
  by_cases hlt : k < n
  · have W := HWY.out wr k hf hlt
    have hki : (k : Int) < (n : Int) := by omega
    clear hf
    cases hu : (up A n k).2 with
    | true =>
     rw [hu] at W
     have HT : Hid (∀ j, j < k + 1 → (up A n j).2 = true) := fun j hj => by
      by_cases hjk : j < k
      · exact HA.out j hjk
      · obtain rfl : j = k := by omega
        exact hu
     clear hu
     go_wp2_with fail
     refine W.mono ?_
     rintro e w1 ⟨v, rfl, -, -, f1⟩
     have F2 : Hid (Fr no w w1) := F1.out.and f1
     clear f1
     go_wp2_with fail
     go_roundw
     case rel => exact ⟨k + 1, by go_num, by omega, F2.out, HT.out⟩
     case measure => simp [intOf]; omega
    | false =>
     rw [hu] at W
     have HT : Hid (ring n A = true) := ring_yes hlt hu
     clear hu
     go_wp2_with fail
     refine W.mono ?_
     rintro e w1 ⟨v, rfl, -, -, f1⟩
     have F2 : Hid (Fr no w w1) := F1.out.and f1
     clear f1
     go_wp2_with fail
     go_ret
     rw [HT.out]
     exact ⟨rfl, F2.out⟩
  · have hkl : k = n := by omega
    subst hkl
    have HT : Hid (ring k A = false) := ring_no HA.out
    clear hf
    go_wp2_with fail
    go_ret
    rw [HT.out]
    exact ⟨rfl, F1.out⟩
theorem wpList_ins (w : World) {ops : Array Oper} {rest : List Oper} {o : Oper} {a : Act} {Q : Exit → Act → World → Prop}
 (hg : o.guard = none) (m x v : Operand) (hop : o.op = Op.insert 114 m x v) (b n : Nat) (D : DataW Unit) (hm : a.eval m = .map (some b)) (hown : Owns w b n D) (hn : n ≤ 1000)
 (s : ByteArray) (hx : a.eval x = .string s) (hs : s.size ≤ 1099511627776) (z : Nat) (hv : a.eval v = .int .i64 (z : Int)) (hz : z ≤ 1000)
 (hK : ∀ w', Owns w' b (n + 1) (D.put (ky s) (.lit (.int .i64 (z : Int)))) → Fr (fun k => k = b) w w' → wpList Tryz.prog ops Q rest (a.put o.dst undef) w') :
 wpList Tryz.prog ops Q (o :: rest) a w := by
 refine wpList_plain hg fun K' hK' => ?_
 obtain ⟨w', hrun, r1, r2⟩ := hown.store keyed Tryz.underlying114 (by unfold maxLen; omega) (ky_key hs) (plainElem_int (a := (z : Int)) Tryz.underlying3 (WalkArith.wf_i64 (by omega)))
 unfold Oper.wp
 simp [execOp, hop, hm, hx, hv, hrun, Result.andThen]
 exact hK' _ _ (hK w' r1 (turned_fr r2))
def newH (names supers : List ByteArray) : Int × List ByteArray × List Nat :=
 if names.length ≠ supers.length then (50, [], []) else if 16 < names.length then (32, [], [])
 else if (addN [obj, fault] names).1 ≠ 0 then ((addN [obj, fault] names).1, [], [])
 else if (addS (addN [obj, fault] names).2 [0, 0] supers).1 ≠ 0 then ((addS (addN [obj, fault] names).2 [0, 0] supers).1, [], [])
 else if ring (addN [obj, fault] names).2.length (addS (addN [obj, fault] names).2 [0, 0] supers).2 = true then (71, [], [])
 else (0, (addN [obj, fault] names).2, (addS (addN [obj, fault] names).2 [0, 0] supers).2)
theorem addN_len : ∀ (l N : List ByteArray), (addN N l).1 = 0 → (addN N l).2.length = N.length + l.length
 | [], N, _ => by simp [addN]
 | x :: l, N, h => by
  unfold addN at h ⊢
  split at h
  · simp at h
  · rename_i h1
    rw [if_neg h1]
    split at h
    · simp at h
    · rename_i h2
      rw [if_neg h2, addN_len l _ h]
      simp
      omega
theorem addN_le : ∀ (l N : List ByteArray), (addN N l).2.length ≤ N.length + l.length
 | [], N => by simp [addN]
 | x :: l, N => by
  unfold addN
  split
  · simp
  · split
    · simp
    · have := addN_le l (N ++ [x])
      simp at this ⊢
      omega
theorem addS_len {N : List ByteArray} : ∀ (l : List ByteArray) (A : List Nat), (addS N A l).1 = 0 → (addS N A l).2.length = A.length + l.length
 | [], A, _ => by simp [addS]
 | x :: l, A, h => by
  unfold addS at h ⊢
  cases hi : ix (supOf x) N with
  | none => rw [hi] at h; simp at h
  | some i =>
   rw [hi] at h
   simp only [] at h ⊢
   rw [addS_len l _ h]
   simp
   omega
theorem addS_lt {N : List ByteArray} : ∀ (l : List ByteArray) (A : List Nat), (∀ a ∈ A, a < N.length) → ∀ a ∈ (addS N A l).2, a < N.length
 | [], A, hA, a, ha => hA a (by simpa [addS] using ha)
 | x :: l, A, hA, a, ha => by
  unfold addS at ha
  cases hi : ix (supOf x) N with
  | none => rw [hi] at ha; exact hA a ha
  | some i =>
   rw [hi] at ha
   refine addS_lt l (A ++ [i]) (fun b hb => ?_) a ha
   rw [List.mem_append] at hb
   rcases hb with hb | hb
   · exact hA b hb
   · simp only [List.mem_singleton] at hb
     rw [hb]; exact ix_lt hi
theorem fine_of {names supers : List ByteArray} (hl : names.length = supers.length) (h1 : (addN [obj, fault] names).1 = 0) (h2 : (addS (addN [obj, fault] names).2 [0, 0] supers).1 = 0) :
 Fine (addN [obj, fault] names).2.length (addS (addN [obj, fault] names).2 [0, 0] supers).2 := by
 have e1 := addN_len names [obj, fault] h1
 have e2 := addS_len supers [0, 0] h2
 refine ⟨by rw [e1, e2, hl]; rfl, fun i => ?_⟩
 rw [List.getD_eq_getElem?_getD]
 cases hi : (addS (addN [obj, fault] names).2 [0, 0] supers).2[i]? with
 | none => simp; rw [e1]; simp; omega
 | some a => exact addS_lt supers [0, 0] (fun a ha => by simp at ha; rw [ha, e1]; simp; omega) a (List.mem_of_getElem? hi)
def NewAt (w w' : World) (r : Int × List ByteArray × List Nat) (q : Option Addr) : Prop :=
 (r.1 ≠ 0 → q = none) ∧ (r.1 = 0 → ∃ p, q = some ⟨p, 0, none⟩ ∧ HB w.heap.size w' p r.2.1 r.2.2 ∧ Fine r.2.1.length r.2.2 ∧ r.2.1.length ≤ 18)
theorem hb_begin (w w4 : World) (hw : Fr (fun k => k = w.heap.size + 1) ((w.alloc (.cells #[.string obj, .string fault] 9)).alloc (.map #[] 0)) w4) (D : DataW Unit) (ho : Owns w4 (w.heap.size + 1) 2 D) (hD : MapOf D [obj, fault]) :
 HB w.heap.size ((w4.alloc (.cells #[.int .i64 0, .int .i64 0] 3)).alloc (.cells #[.slice (some ⟨w.heap.size, 0, none⟩) 2 2, .map (some (w.heap.size + 1)), .slice (some ⟨w4.heap.size, 0, none⟩) 2 2] 116)) (w4.heap.size + 1) [obj, fault] [0, 0] ∧
  Fr no w ((w4.alloc (.cells #[.int .i64 0, .int .i64 0] 3)).alloc (.cells #[.slice (some ⟨w.heap.size, 0, none⟩) 2 2, .map (some (w.heap.size + 1)), .slice (some ⟨w4.heap.size, 0, none⟩) 2 2] 116)) := by
 have f0 : Fr no w ((w.alloc (.cells #[.string obj, .string fault] 9)).alloc (.map #[] 0)) := ((Fr.refl no w).alloc _ _).allocMap
 have f4 : Fr no w w4 := f0.new hw (fun i hi e => by omega)
 have hs4 : w.heap.size + 2 ≤ w4.heap.size := by have := hw.size; simp at this; omega
 have o1 : OwnG elS (w.alloc (.cells #[.string obj, .string fault] 9)) (.slice (some ⟨w.heap.size, 0, none⟩) 2 2) [obj, fault] := own_lit (K := elS) w [obj, fault] _ rfl (by unfold maxLen; simp)
 have o4 : OwnG elS w4 (.slice (some ⟨w.heap.size, 0, none⟩) 2 2) [obj, fault] := (o1.keep (Fr.allocMap (Fr.refl no _))).kept hw (fun k hk e => by simp [Value.ownBlock] at hk; omega)
 have g1 : Fr no w4 (w4.alloc (.cells #[.int .i64 0, .int .i64 0] 3)) := (Fr.refl no w4).alloc _ _
 have a5 : OwnG elI (w4.alloc (.cells #[.int .i64 0, .int .i64 0] 3)) (.slice (some ⟨w4.heap.size, 0, none⟩) 2 2) [0, 0] := own_lit (K := elI) w4 [0, 0] _ rfl (by unfold maxLen; simp)
 have g2 : ∀ c t, Fr no (w4.alloc (.cells #[.int .i64 0, .int .i64 0] 3)) ((w4.alloc (.cells #[.int .i64 0, .int .i64 0] 3)).alloc (.cells c t)) := fun c t => (Fr.refl no _).alloc _ _
 have e5 : (w4.alloc (.cells #[.int .i64 0, .int .i64 0] 3)).heap.size = w4.heap.size + 1 := by simp
 refine ⟨⟨_, _, _, D, ?_, o4.keep (g1.and (g2 _ _)), a5.keep (g2 _ _), owns_keep ho (g1.and (g2 _ _)) (fun f => f), hD, by omega, by omega, ?_, ?_⟩, f4.and (g1.and (g2 _ _))⟩
 · rw [← e5]; exact heap_alloc_new _ _
 · intro k hk; simp [Value.ownBlock] at hk; omega
 · intro k hk; simp [Value.ownBlock] at hk; omega
set_option maxRecDepth 100000 in
set_option maxHeartbeats 2000000 in
theorem new_any (w : World) (v1 v2 : Value) (names supers : List ByteArray) (h1 : SlG elS w v1 names) (h2 : SlG elS w v2 supers) (s1 : ∀ x ∈ names, x.size ≤ 1099511627776) (s2 : ∀ x ∈ supers, x.size ≤ 1099511627776) (b1 : names.length ≤ 1000000) (b2 : supers.length ≤ 1000000) :
 Calls Tryz.prog 21 #[v1, v2] w fun e w' => ∃ q, e = .returned (.tuple #[.pointer q, .int .i64 (newH names supers).1]) ∧ NewAt w w' (newH names supers) q ∧ Fr no w w' := by
 have H1 : Hid (SlG elS w v1 names) := h1
 have H2 : Hid (SlG elS w v2 supers) := h2
 obtain ⟨o1, c1, rfl, -⟩ := h1
 obtain ⟨o2, c2, rfl, -⟩ := h2
 by_cases hl : names.length = supers.length
 case neg =>
  have HN : Hid (newH names supers = (50, [], [])) := by show _ = _; unfold newH; rw [if_pos hl]
  have hq : ((names.length : Int) == (supers.length : Int)) = false := by simp; omega
  clear H1 H2 s1 s2
  go_enter Tryz.func21, Tryz.ntmps21
  go_wp2_with fail
  go_ret2
  rw [HN.out]
  exact ⟨_, rfl, ⟨fun _ => rfl, fun h => by simp at h⟩, Fr.refl _ _⟩
 by_cases hb : 16 < names.length
 · have HN : Hid (newH names supers = (32, [], [])) := by show _ = _; unfold newH; rw [if_neg (by omega), if_pos hb]
   rw [← hl]
   generalize names.length = n at *
   clear H1 H2 s1 s2
   go_enter Tryz.func21, Tryz.ntmps21
   go_wp2_with fail
   go_ret2
   rw [HN.out]
   exact ⟨_, rfl, ⟨fun _ => rfl, fun h => by simp at h⟩, Fr.refl _ _⟩
 have E : newH names supers = (if (addN [obj, fault] names).1 ≠ 0 then ((addN [obj, fault] names).1, [], [])
  else if (addS (addN [obj, fault] names).2 [0, 0] supers).1 ≠ 0 then ((addS (addN [obj, fault] names).2 [0, 0] supers).1, [], [])
  else if ring (addN [obj, fault] names).2.length (addS (addN [obj, fault] names).2 [0, 0] supers).2 = true then (71, [], [])
  else (0, (addN [obj, fault] names).2, (addS (addN [obj, fault] names).2 [0, 0] supers).2)) := by
  unfold newH; rw [if_neg (by omega), if_neg hb]
 have hl2 : Hid (names.length = supers.length) := hl
 have hb2 : Hid (names.length ≤ 16) := by show _ ≤ _; omega
 have S1 : Hid (∀ x ∈ names, x.size ≤ 1099511627776) := s1
 have S2 : Hid (∀ x ∈ supers, x.size ≤ 1099511627776) := s2
 have AN : Hid (∀ w5 p, HB w.heap.size w5 p [obj, fault] [0, 0] → Fr no w w5 → Calls Tryz.prog 43 #[.pointer (some ⟨p, 0, none⟩), .slice o1 names.length c1] w5 fun e w' => e = .returned (.int .i64 (addN [obj, fault] names).1) ∧ HB w.heap.size w' p (addN [obj, fault] names).2 [0, 0] ∧ Fr no w w') :=
  fun w5 p h f => addNames_any w w5 f p [obj, fault] [0, 0] h _ names H1.out S1.out (by have := hb2.out; simp; omega)
 have AS : Hid (∀ w5 p, HB w.heap.size w5 p (addN [obj, fault] names).2 [0, 0] → Fr no w w5 → Calls Tryz.prog 44 #[.pointer (some ⟨p, 0, none⟩), .slice o2 supers.length c2] w5 fun e w' => e = .returned (.int .i64 (addS (addN [obj, fault] names).2 [0, 0] supers).1) ∧ HB w.heap.size w' p (addN [obj, fault] names).2 (addS (addN [obj, fault] names).2 [0, 0] supers).2 ∧ Fr no w w') :=
  fun w5 p h f => addSupers_any w w5 f p _ [0, 0] h _ supers H2.out S2.out (by have := hb2.out; have := hl2.out; simp; omega)
 have NL : Hid ((addN [obj, fault] names).2.length ≤ 18) := by show _ ≤ _; have h1 := addN_le names [obj, fault]; have h2 := hb2.out; simp only [List.length_cons, List.length_nil] at h1; omega
 have FN : Hid ((addN [obj, fault] names).1 = 0 → (addS (addN [obj, fault] names).2 [0, 0] supers).1 = 0 → Fine (addN [obj, fault] names).2.length (addS (addN [obj, fault] names).2 [0, 0] supers).2) := fun a b => fine_of hl2.out a b
 have HE : Hid (newH names supers = (if (addN [obj, fault] names).1 ≠ 0 then ((addN [obj, fault] names).1, [], [])
  else if (addS (addN [obj, fault] names).2 [0, 0] supers).1 ≠ 0 then ((addS (addN [obj, fault] names).2 [0, 0] supers).1, [], [])
  else if ring (addN [obj, fault] names).2.length (addS (addN [obj, fault] names).2 [0, 0] supers).2 = true then (71, [], [])
  else (0, (addN [obj, fault] names).2, (addS (addN [obj, fault] names).2 [0, 0] supers).2))) := E
 clear E s1 s2 H1 H2 S1 S2 hl2 hb2
 rw [hl] at AN hb b1 ⊢
 clear hl
 generalize supers.length = n at *
 generalize (addS (addN [obj, fault] names).2 [0, 0] supers).1 = rs at *
 generalize (addS (addN [obj, fault] names).2 [0, 0] supers).2 = A at *
 generalize (addN [obj, fault] names).1 = rn at *
 generalize (addN [obj, fault] names).2 = N at *
 generalize newH names supers = R at *
 have MO : Hid (MapOf (((DataW.map []).put (ky obj) (.lit (.int .i64 ((0 : Nat) : Int)))).put (ky fault) (.lit (.int .i64 ((1 : Nat) : Int)))) [obj, fault]) := by
  have m1 := mapOf_put mapOf_nil (s := obj) rfl
  exact mapOf_put m1 (s := fault) (by decide)
 have OW : Hid (Owns ((w.alloc (.cells #[.string obj, .string fault] 9)).alloc (.map #[] 0)) (w.heap.size + 1) 0 (.map [])) := by
  have := World.ownsMap_made (H := Unit) (w.alloc (.cells #[.string obj, .string fault] 9)) Tryz.prog 9 (plainElem Tryz.prog 3)
  show Owns _ _ _ _
  simpa using this
 have hmm := @run_makeMap Tryz.prog
 have b16 : n ≤ 16 := by omega
 go_enter Tryz.func21, Tryz.ntmps21
 go_wp2_with (first | (refine wpList_ins _ rfl _ _ _ rfl (w.heap.size + 1) 0 _ rfl OW.out (by omega) obj rfl (by decide) 0 rfl (by omega) ?_; intro w3 O3 F3) | (refine wpList_ins _ rfl _ _ _ rfl (w.heap.size + 1) 1 _ rfl O3 (by omega) fault rfl (by decide) 1 rfl (by omega) ?_; intro w4 O4 F4))
 have hbg := hb_begin w w4 (F3.trans F4 (fun _ _ e => e) (fun _ _ e => e)) _ O4 MO.out
 simp only [obj, fault] at hbg
 obtain ⟨hb5, f5⟩ := hbg
 have C1 := AN.out _ _ hb5 f5
 clear O3 F3 O4 F4 hb5 f5 OW MO hmm
 refine C1.mono ?_
 rintro e w5 ⟨rfl, hb5, f5⟩
 have HB5 : Hid (HB w.heap.size w5 (w4.heap.size + 1) N [0, 0]) := hb5
 have F5 : Hid (Fr no w w5) := f5
 have C2 := AS.out _ _ hb5 f5
 clear hb5 f5 C1
 by_cases hrn : rn = 0
 case neg =>
  have hq : (rn == 0) = false := by simpa using hrn
  have HR : Hid (R = (rn, [], [])) := by show _ = _; rw [HE.out, if_pos hrn]
  go_wp2_with fail
  go_ret2
  rw [HR.out]
  exact ⟨_, rfl, ⟨fun _ => rfl, fun h => absurd h hrn⟩, F5.out⟩
 subst hrn
 go_wp2_with fail
 refine C2.mono ?_
 rintro e w6 ⟨rfl, hb6, f6⟩
 have HB6 : Hid (HB w.heap.size w6 (w4.heap.size + 1) N A) := hb6
 have F6 : Hid (Fr no w w6) := f6
 clear hb6 f6 C2 HB5 F5
 by_cases hrs : rs = 0
 case neg =>
  have hq : (rs == 0) = false := by simpa using hrs
  have HR : Hid (R = (rs, [], [])) := by show _ = _; rw [HE.out, if_neg (by simp), if_pos hrs]
  go_wp2_with fail
  go_ret2
  rw [HR.out]
  exact ⟨_, rfl, ⟨fun _ => rfl, fun h => absurd h hrs⟩, F6.out⟩
 subst hrs
 have C3 := hasRing_any w6 (w4.heap.size + 1) N A HB6.out (FN.out (by simp) (by simp)) (by have := NL.out; omega)
 have HR : Hid (R = if ring N.length A = true then (71, [], []) else (0, N, A)) := by show _ = _; rw [HE.out, if_neg (by simp), if_neg (by simp)]
 cases hr : ring N.length A with
 | true =>
  rw [hr] at C3 HR
  go_wp2_with fail
  refine C3.mono ?_
  rintro e w7 ⟨rfl, f7⟩
  have F7 : Hid (Fr no w w7) := F6.out.and f7
  clear f7
  go_wp2_with fail
  go_ret2
  rw [HR.out]
  exact ⟨_, rfl, ⟨fun _ => rfl, fun h => by simp at h⟩, F7.out⟩
 | false =>
  rw [hr] at C3 HR
  go_wp2_with fail
  refine C3.mono ?_
  rintro e w7 ⟨rfl, f7⟩
  have F7 : Hid (Fr no w w7) := F6.out.and f7
  have HB7 : Hid (HB w.heap.size w7 (w4.heap.size + 1) N A) := HB6.out.keep f7
  clear f7
  go_wp2_with fail
  go_ret2
  rw [HR.out]
  exact ⟨_, rfl, ⟨fun h => by simp at h, fun _ => ⟨_, rfl, HB7.out, FN.out (by simp) (by simp), NL.out⟩⟩, F7.out⟩
end H
end Go.Proofs.YtalgjpmaafooeaaGreatDoor
/- Linked classes without memory: what objects have of a class, what is wrong with classes together. -/
namespace Go.Proofs.YtalgjpmaafooeaaGreatDoor
open H (ix up words nameAt newH obj fault)
deriving instance DecidableEq for Ty
def objC : Cl := ⟨obj, e0, [], [], []⟩
def faultC : Cl := ⟨fault, e0, [], [⟨⟨#[99, 111, 100, 101]⟩, ⟨1, e0⟩, false⟩], []⟩
structure Li where
 c : Cl
 slots : List Slt
 words : Int
 fm : ByteArray → Option Nat
 mm : ByteArray → Option (Nat × Nat)
 nm : Nat
def li0 (c : Cl) : Li := ⟨c, [], 0, fun _ => none, fun _ => none, 0⟩
def takeF (cn : ByteArray) (y : Li) (f : Fd) : Li :=
 { y with slots := y.slots ++ [⟨cn, f, y.words⟩], words := y.words + words f.ty, fm := fun s => if f.name = s then some y.slots.length else y.fm s }
def takeFs (cn : ByteArray) (y : Li) : List Fd → Li
 | [] => y
 | f :: r => takeFs cn (takeF cn y f) r
def takeM (num at' : Nat) (y : Li) (m : Mt) : Li := { y with mm := fun s => if m.name = s then some (num, at') else y.mm s, nm := y.nm + 1 }
def takeMs (num at' : Nat) (y : Li) : List Mt → Li
 | [] => y
 | m :: r => takeMs num (at' + 1) (takeM num at' y m) r
def takeC (y : Li) (num : Nat) (c : Cl) : Li := takeMs num 0 (takeFs c.name y c.fields) c.methods
def clsAt (Cs : List Cl) (i : Nat) : Cl := Cs.getD i objC
def layN (Cs : List Cl) (y : Li) : List Nat → Li
 | [] => y
 | j :: r => layN Cs (takeC y j (clsAt Cs j)) r
def lay (Cs : List Cl) (A : List Nat) (i : Nat) : Li := layN Cs (li0 (clsAt Cs i)) (up A Cs.length i).1.reverse
def layAll (Cs : List Cl) (A : List Nat) : List Li := (List.range Cs.length).map (lay Cs A)
def namesOf (Cs : List Cl) : List ByteArray := Cs.map Cl.name
/-! ### Questions -/
def fieldOf (N : List ByteArray) (L : List Li) (cn n : ByteArray) : Option Slt :=
 match ix cn N with
 | none => none
 | some i => match L[i]? with
  | none => none
  | some y => match y.fm n with
   | none => none
   | some k => y.slots[k]?
def findOf (N : List ByteArray) (L : List Li) (cn n : ByteArray) : Option (Nat × Nat) :=
 match ix cn N with
 | none => none
 | some i => match L[i]? with
  | none => none
  | some y => y.mm n
/-! ### What is wrong -/
def strange (N : List ByteArray) (t : Ty) : Bool := decide (t.k = 4) && !(ix t.c N).isSome
def noCls (N : List ByteArray) (c : Cl) : Bool := c.fields.any (fun f => strange N f.ty) || c.methods.any (fun m => strange N m.ret || m.params.any (strange N))
def shares (a b : Cl) : Bool := a.fields.any fun f => b.fields.any fun g => decide (f.name = g.name)
def sameT (m n : Mt) : Bool := decide (m.ret = n.ret) && decide (m.params = n.params)
def differ (a b : Cl) : Bool := a.methods.any fun m => b.methods.any fun n => decide (m.name = n.name) && !sameT m n
def above (Cs : List Cl) (A : List Nat) (i : Nat) : List Cl := ((up A Cs.length i).1.drop 1).map (clsAt Cs)
def memE (Cs : List Cl) (A : List Nat) (i : Nat) : Nat :=
 if noCls (namesOf Cs) (clsAt Cs i) = true then 70
 else if (above Cs A i).any (shares (clsAt Cs i)) = true then 53
 else if (above Cs A i).any (differ (clsAt Cs i)) = true then 73 else 0
def constE (N : List ByteArray) (L : List Li) (k : Cs) : Nat :=
 if k.k = 1 ∨ k.k = 2 then 0
 else if (ix k.c N).isSome = false then 70
 else if k.k = 4 then (if (fieldOf N L k.c k.m).isSome = true then 0 else 72)
 else if k.k = 5 then (if (findOf N L k.c k.m).isSome = true then 0 else 72) else 0
def firstN {α : Type} (f : α → Nat) : List α → Nat
 | [] => 0
 | x :: r => if f x ≠ 0 then f x else firstN f r
def poolE (Cs : List Cl) (L : List Li) (i : Nat) : Nat := firstN (constE (namesOf Cs) L) (clsAt Cs i).pool
def sMain : ByteArray := ⟨#[77, 97, 105, 110]⟩
def smain : ByteArray := ⟨#[109, 97, 105, 110]⟩
def methAt (Cs : List Cl) (q : Nat × Nat) : Option Mt := (clsAt Cs q.1).methods[q.2]?
def mainE (Cs : List Cl) (L : List Li) : Nat :=
 match findOf (namesOf Cs) L sMain smain with
 | none => 74
 | some q => match methAt Cs q with
  | none => 74
  | some m => if m.params = [] ∧ m.ret.k = 0 then 0 else 74
def checkE (Cs : List Cl) (A : List Nat) : Nat :=
 if firstN (memE Cs A) (List.range Cs.length) ≠ 0 then firstN (memE Cs A) (List.range Cs.length)
 else if firstN (poolE Cs (layAll Cs A)) (List.range Cs.length) ≠ 0 then firstN (poolE Cs (layAll Cs A)) (List.range Cs.length)
 else mainE Cs (layAll Cs A)
def allC (cs : List Cl) : List Cl := objC :: faultC :: cs
def newC (cs : List Cl) : Int × List ByteArray × List Nat := newH (cs.map Cl.name) (cs.map Cl.super)
def linkE (cs : List Cl) : Int :=
 if firstN chk cs ≠ 0 then (firstN chk cs : Int)
 else if (newC cs).1 ≠ 0 then (newC cs).1
 else (checkE (allC cs) (newC cs).2.2 : Int)
end Go.Proofs.YtalgjpmaafooeaaGreatDoor
