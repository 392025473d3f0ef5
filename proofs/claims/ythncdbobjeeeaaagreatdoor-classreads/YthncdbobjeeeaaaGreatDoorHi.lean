/- The document's class reader: a method. -/
import Derived.Test.YthncdbobjeeeaaaGreatDoorHh
import Derived.Deep.RegionLaw
import Derived.BigRegion
import Derived.Deep.CutBlock
import Derived.Deep.DeepCutAuto
namespace Go.Proofs.YthncdbobjeeeaaaGreatDoor
open Go.ChangeShapes Go.WideShapes Go.ChangeAt Go.RowKit

theorem results_31 (w : World) (r : Nat) (x0 x1 x2 x3 x4 x5 x6 x7 : Value) (h : w.heap[r]? = some (.cells #[x0, x1, x2, x3, x4, x5, x6, x7] 53 (0, 0))) (tmps : Array Value) (h2 : tmps.getD 2 undef = .pointer (some ⟨r, 0, none⟩)) :
    (results Tryz.f31 tmps).run Tryz.prog w = .ok (.agg #[x0, x1, x2, x3, x4, x5, x6, x7]) w := by
  have hl : (loadVar 53 ⟨r, 0, none⟩).run Tryz.prog w = .ok (.agg #[x0, x1, x2, x3, x4, x5, x6, x7]) w := run_loadVar_row (P := Tryz.prog) w r 53 53 #[x0, x1, x2, x3, x4, x5, x6, x7] (0, 0) _ h Tryz.underlying53 rfl (by kernel_rfl)
  have h2' : tmps[2]?.getD undef = .pointer (some ⟨r, 0, none⟩) := by simpa using h2
  simp [results, asAddr, h2', hl]


section
variable {w : World} {tt : TypeId} {p q R M : Nat} {Z mc : Array Value} {s s2 : Sb} {w1 w2 : World}
theorem MS.fin (h : MS w tt p q R M Z mc s w1) (hZ : ∀ u ∈ Z.toList, nob u) (hn : w.heap.size ≤ R) (f : Fr (fun k => k = R) w1 w2) : DS w2 p q s ∧ Fr (PQ p q) w w2 :=
  ⟨h.ds.away (fun k hk => by subst hk; exact ⟨h.rp.1, h.rp.2, nob_block h.hR hZ⟩) f, h.fr.trans f (fun _ _ e => e) (fun i hi e => by omega)⟩
theorem MS.stepq (h : MS w tt p q R M Z mc s w1) {l' : List Nat} (r : Rd 78 w2 q l') (f : Fr (fun k => k = q) w1 w2) (hl : ∀ c ∈ l', c < 256) (hn : l'.length ≤ 1099511627776) : MS w tt p q R M Z mc (l', s.2) w2 :=
  h.read (h.ds.stepq r f hl hn) (f.mono (fun _ _ e => .inr e))
theorem MS.other (h : MS w tt p q R M Z mc s w1) {A : Nat} {cur : Array Value} {t : TypeId} (hA : w1.heap[A]? = some (.cells cur t (0, 0))) (hn : ∀ u ∈ cur.toList, nob u) (hR : A ≠ R) (hM : A ≠ M) (hw : w.heap.size ≤ A) (j : Nat) (v : Value) : MS w tt p q R M Z mc s (w1.setCell ⟨A, j, none⟩ v) := by
  have f := fr_one w1 A j v
  exact ⟨h.ds.away (fun k hk => by subst hk; exact ⟨by have := h.pl; omega, by have := h.ql; omega, nob_block hA hn⟩) f, h.fr.trans f (fun _ _ e => e) (fun i hi e => by omega), f.heap h.hR (fun e => hR e.symm), f.heap h.hM (fun e => hM e.symm), h.rp, h.nM, h.ne, h.pl, h.ql, h.nb⟩
variable {α : Type} {K : El α} {v v' : Value} {l l' : List α}
theorem Rw.fin (h : Rw K w w1 v l) (hR : w1.heap[R]? = some (.cells Z tt (0, 0))) (ht : tt ≠ K.e) (f : Fr (fun k => k = R) w1 w2) : OwnG K w2 v l :=
  h.own.but f (fun k hk cur' t' fz hc => by subst hk; rw [hR] at hc; simp only [Option.some.injEq, Obj.cells.injEq] at hc; rw [← hc.2.1]; exact ht)
theorem Rw.other (h : Rw K w w1 v l) {A : Nat} (hne : v.ownBlock ≠ some A) (j : Nat) (u : Value) : Rw K w (w1.setCell ⟨A, j, none⟩ u) v l :=
  ⟨h.own.kept (fr_one w1 A j u) (fun _ hk e => hne (e ▸ hk)), h.nw⟩
theorem Rw.stepq (h : Rw K w w1 v l) (hq : q < w.heap.size) (f : Fr (fun k => k = q) w1 w2) : Rw K w w2 v l :=
  ⟨h.own.kept f (fun k hk e => by have := h.nw k hk; omega), h.nw⟩
end
theorem run_fromk (w : World) (b off n cap k : Nat) (h : k ≤ n) (hc : ¬ cap = k) : (Instr.slice 22 (.slice (some ⟨b, off, none⟩) n cap) (some (.int .i64 (k : Int))) none none).run Tryz.prog w = .ok (.slice (some ⟨b, off + k, none⟩) (n - k) (cap - k)) w := by
  obtain ⟨i0, hi, hz0, hz1, hz2⟩ := info_parts Tryz.info5
  have hu : Tryz.prog.underlying 22 = some (.slice (Tryz.prog.elem 22)) := by kernel_rfl
  have he : Tryz.prog.elem 22 = 5 := by kernel_rfl
  rw [run_slice_l (P := Tryz.prog) w 22 (some ⟨b, off, none⟩) n cap hu .i64 (k : Int) (by omega) (by omega), he]
  simp [sizeOf, typeInfo, hi, hz1, sliced, hc, Addr.add]
theorem run_fromk' (w : World) (b off n cap k : Nat) (h : k ≤ n) (hc : ¬ cap = k) : (Instr.sliceAt 22 (.slice (some ⟨b, off, none⟩) n cap) (some (.int .i64 (k : Int))) none none).run Tryz.prog w = .ok (.slice (some ⟨b, off + k, none⟩) (n - k) (cap - k)) w := by
  rw [run_sliceAt_slice (P := Tryz.prog) w 22 _ _ _ _ (by kernel_rfl)]
  exact run_fromk w b off n cap k h hc
theorem run_fromc (w : World) (b off n cap k : Nat) (h : k ≤ n) (hc : cap = k) : (Instr.slice 22 (.slice (some ⟨b, off, none⟩) n cap) (some (.int .i64 (k : Int))) none none).run Tryz.prog w = .ok (.slice (some ⟨b, off, none⟩) (n - k) (cap - k)) w := by
  obtain ⟨i0, hi, hz0, hz1, hz2⟩ := info_parts Tryz.info5
  have hu : Tryz.prog.underlying 22 = some (.slice (Tryz.prog.elem 22)) := by kernel_rfl
  have he : Tryz.prog.elem 22 = 5 := by kernel_rfl
  rw [run_slice_l (P := Tryz.prog) w 22 (some ⟨b, off, none⟩) n cap hu .i64 (k : Int) (by omega) (by omega), he]
  simp [sizeOf, typeInfo, hi, hz1, sliced, hc]
theorem run_fromc' (w : World) (b off n cap k : Nat) (h : k ≤ n) (hc : cap = k) : (Instr.sliceAt 22 (.slice (some ⟨b, off, none⟩) n cap) (some (.int .i64 (k : Int))) none none).run Tryz.prog w = .ok (.slice (some ⟨b, off, none⟩) (n - k) (cap - k)) w := by
  rw [run_sliceAt_slice (P := Tryz.prog) w 22 _ _ _ _ (by kernel_rfl)]
  exact run_fromc w b off n cap k h hc
theorem z53 : ∀ u ∈ (#[.string ⟨#[]⟩, .slice none 0 0, .int .i64 0, .string ⟨#[]⟩, .int .i64 0, .int .i64 0, .slice none 0 0, .slice none 0 0] : Array Value).toList, nob u := nobs8 (nob_str _) (nob_sl _ _ _) (nob_int _) (nob_str _) (nob_int _) (nob_int _) (nob_sl _ _ _) (nob_sl _ _ _)


theorem DS.tag {w : World} {p q : Nat} {s : Sb} (h : DS w p q s) : ∀ k, PQ p q k → ∀ cur t fz, w.heap[k]? = some (.cells cur t fz) → t = 80 ∨ t = 78 := by
  rintro k (rfl | rfl) cur t fz ht
  · rw [h.blk] at ht
    simp only [Option.some.injEq, Obj.cells.injEq] at ht
    exact .inl ht.2.1.symm
  · obtain ⟨v, hv, _⟩ := h.rd
    rw [hv] at ht
    simp only [Option.some.injEq, Obj.cells.injEq] at ht
    exact .inr ht.2.1.symm
section
variable {w w' : World} {v u u' : Value} {l : List (Int × Int)} {p q A : Nat} {s : Sb}
theorem OwnI.setB (h : OwnI w v l) {cur : Array Value} {t : TypeId} (hA : w.heap[A]? = some (.cells cur t (0, 0))) (ht : t ≠ 57) (j : Nat) (x : Value) : OwnI (w.setCell ⟨A, j, none⟩ x) v l :=
  h.but (fr_one w A j x) (fun k hk cur' t' fz hc => by subst hk; rw [hA] at hc; simp only [Option.some.injEq, Obj.cells.injEq] at hc; rw [← hc.2.1]; exact ht)
theorem OwnI.readB (h : OwnI w v l) (d : DS w p q s) (f : Fr (PQ p q) w w') : OwnI w' v l :=
  h.but f (fun k hk cur t fz hc => by rcases d.tag k hk cur t fz hc with rfl | rfl <;> decide)
theorem OwnI.qB (h : OwnI w v l) (d : DS w p q s) (f : Fr (fun k => k = q) w w') : OwnI w' v l :=
  h.readB d (f.mono (fun _ _ e => .inr e))
theorem OwnI.newB (h : OwnI w v l) (f : Fr no w w') : OwnI w' v l := h.kept f (fun _ _ f => f)
theorem OwnI.rowB {α : Type} {K : El α} {m : List α} (h : OwnI w v l) (o : OwnG K w u m) (ht : K.e ≠ 57) (sp : Sp no u w u' w') : OwnI w' v l :=
  h.but sp.1 (fun k hk cur t fz hc => by
    rcases hk with hk | hk
    · exact hk.elim
    · obtain ⟨cur', e⟩ := o.tag hk
      rw [e] at hc
      simp only [Option.some.injEq, Obj.cells.injEq] at hc
      rw [← hc.2.1]
      exact ht)
end
theorem MS.nobM {w : World} {tt : TypeId} {p q R M : Nat} {Z mc : Array Value} {s : Sb} {w1 : World} (h : MS w tt p q R M Z mc s w1) : ∀ k c, w1.cell? k = some (.int .u8 c) → k.block ≠ M := fun k c hk e => by
  obtain ⟨cur, t, fz, hg, hm⟩ := cell_mem hk
  rw [e, h.hM] at hg
  simp only [Option.some.injEq, Obj.cells.injEq] at hg
  obtain ⟨rfl, _, _⟩ := hg
  exact h.nb _ hm c rfl

theorem dLoop_go {α : Type} (f : Sb → α × Sb) (n j : Nat) (acc : List α) (l : List Nat) (hj : j < n) : dLoop f (n - j) acc (l, false) = dLoop f (n - (j + 1)) (acc ++ [(f (l, false)).1]) (f (l, false)).2 := by
  rw [show n - j = (n - (j + 1)) + 1 by omega]
  rfl
theorem dLoop_bad {α : Type} (f : Sb → α × Sb) (n : Nat) (acc : List α) (l : List Nat) : dLoop f n acc (l, true) = (acc, (l, true)) := by
  cases n <;> rfl

set_option maxRecDepth 100000 in
set_option maxHeartbeats 16000000 in
theorem dMethod_any (w : World) (p q : Nat) (s : Sb) (h : DS w p q s) :
    Calls Tryz.prog 31 #[.pointer (some ⟨p, 0, none⟩)] w fun x w' => ∃ y : Ms, x = .returned (msV y) ∧ MtOwn w' y (dMt s).1 ∧ DS w' p q (dMt s).2 ∧ Fr (PQ p q) w w' ∧ FitM (dMt s).1 := by
  have f0 : Fr no w (w.alloc (.cells #[.string ⟨#[]⟩, .slice none 0 0, .int .i64 0, .string ⟨#[]⟩, .int .i64 0, .int .i64 0, .slice none 0 0, .slice none 0 0] 53)) := (Fr.refl no w).alloc _ _
  have hb0 := heap_alloc_new w (.cells #[.string ⟨#[]⟩, .slice none 0 0, .int .i64 0, .string ⟨#[]⟩, .int .i64 0, .int .i64 0, .slice none 0 0, .slice none 0 0] 53)
  have K1 := dText_any _ p q s (h.new f0)
  have HDM : Hid (dMt s = if (dM1 s).2.2 = true ∨ (dM1 s).2.1.length < (dM1 s).1.2.2.2.2.2 then (⟨(dM1 s).1.1, (dM1 s).1.2.1, (dM1 s).1.2.2.1, ((dM1 s).1.2.2.2.1 : Int), ((dM1 s).1.2.2.2.2.1 : Int), [], []⟩, ((dM1 s).2.1, true))
    else (⟨(dM1 s).1.1, (dM1 s).1.2.1, (dM1 s).1.2.2.1, ((dM1 s).1.2.2.2.1 : Int), ((dM1 s).1.2.2.2.2.1 : Int), (dM2 (dM1 s).1.2.2.2.2.2 (dM1 s).2).1.1, (dM2 (dM1 s).1.2.2.2.2.2 (dM1 s).2).1.2⟩, (dM2 (dM1 s).1.2.2.2.2.2 (dM1 s).2).2)) := rfl
  have HD1 : Hid (dM1 s = (((dX 20 s).1, (dLoop dTy (dN 6 (dX 20 s).2).1 [] (dN 6 (dX 20 s).2).2).1, (dTy (dLoop dTy (dN 6 (dX 20 s).2).1 [] (dN 6 (dX 20 s).2).2).2).1, (dN 32 (dTy (dLoop dTy (dN 6 (dX 20 s).2).1 [] (dN 6 (dX 20 s).2).2).2).2).1, (dN 64 (dN 32 (dTy (dLoop dTy (dN 6 (dX 20 s).2).1 [] (dN 6 (dX 20 s).2).2).2).2).2).1, (dN (((dN 64 (dN 32 (dTy (dLoop dTy (dN 6 (dX 20 s).2).1 [] (dN 6 (dX 20 s).2).2).2).2).2).2.1.length : Nat) : Int) (dN 64 (dN 32 (dTy (dLoop dTy (dN 6 (dX 20 s).2).1 [] (dN 6 (dX 20 s).2).2).2).2).2).2).1), (dN (((dN 64 (dN 32 (dTy (dLoop dTy (dN 6 (dX 20 s).2).1 [] (dN 6 (dX 20 s).2).2).2).2).2).2.1.length : Nat) : Int) (dN 64 (dN 32 (dTy (dLoop dTy (dN 6 (dX 20 s).2).1 [] (dN 6 (dX 20 s).2).2).2).2).2).2).2)) := rfl
  have hfn := dX_fit s h.by_
  have hlt := h.lt
  have HF0 : Hid (Fr no w (w.alloc (.cells #[.string ⟨#[]⟩, .slice none 0 0, .int .i64 0, .string ⟨#[]⟩, .int .i64 0, .int .i64 0, .slice none 0 0, .slice none 0 0] 53))) := f0
  have HB0 : Hid ((w.alloc (.cells #[.string ⟨#[]⟩, .slice none 0 0, .int .i64 0, .string ⟨#[]⟩, .int .i64 0, .int .i64 0, .slice none 0 0, .slice none 0 0] 53)).heap[w.heap.size]? = some (.cells #[.string ⟨#[]⟩, .slice none 0 0, .int .i64 0, .string ⟨#[]⟩, .int .i64 0, .int .i64 0, .slice none 0 0, .slice none 0 0] 53 (0, 0))) := hb0
  have HS0 : Hid ((w.alloc (.cells #[.string ⟨#[]⟩, .slice none 0 0, .int .i64 0, .string ⟨#[]⟩, .int .i64 0, .int .i64 0, .slice none 0 0, .slice none 0 0] 53)).heap.size = w.heap.size + 1) := size_alloc _ _
  clear h f0 hb0
  generalize dMt s = D at *
  generalize dM1 s = D1 at *
  generalize dX 20 s = t1 at *
  obtain ⟨nm, s1⟩ := t1
  simp only [] at K1 HD1 hfn
  go_enter Tryz.func31, Tryz.ntmps31
  go_wp2_with fail
  refine K1.mono ?_
  rintro x w1 ⟨rfl, r1, f1⟩
  have fA : Fr no w1 (w1.alloc (.cells #[.string nm, .slice none 0 0, .int .i64 0, .string ⟨#[]⟩, .int .i64 0, .int .i64 0, .slice none 0 0, .slice none 0 0] 53)) := (Fr.refl no w1).alloc _ _
  have hA := heap_alloc_new w1 (.cells #[.string nm, .slice none 0 0, .int .i64 0, .string ⟨#[]⟩, .int .i64 0, .int .i64 0, .slice none 0 0, .slice none 0 0] 53)
  have K2 := dNum_any _ p q s1 (r1.new fA) 6 (by omega) (by omega)
  have hn6 := dN_fit 6 s1
  have hn6 : (dN 6 s1).1 ≤ 6 := hn6
  generalize dN 6 s1 = t2 at *
  obtain ⟨n, s2⟩ := t2
  simp only [] at K2 HD1 hn6
  clear K1
  go_wp2_with fail
  refine K2.mono ?_
  rintro x w2 ⟨rfl, r2, f2⟩
  have ms : MS w 53 p q w.heap.size w1.heap.size #[.string ⟨#[]⟩, .slice none 0 0, .int .i64 0, .string ⟨#[]⟩, .int .i64 0, .int .i64 0, .slice none 0 0, .slice none 0 0] #[.string nm, .slice none 0 0, .int .i64 0, .string ⟨#[]⟩, .int .i64 0, .int .i64 0, .slice none 0 0, .slice none 0 0] s2 w2 := by
    have g1 := f1.size
    have g0 := HS0.out
    have hR1 := f1.heap HB0.out (fun e => e.elim (fun e => by omega) (fun e => by omega))
    exact ⟨r2, ((HF0.out.trans f1 (fun _ _ f => f.elim) (fun _ _ e => e)).trans fA (fun _ _ e => e) (fun _ _ f => f.elim)).trans f2 (fun _ _ e => e) (fun _ _ e => e),
      f2.heap (fA.heap hR1 (fun f => f)) (fun e => e.elim (fun e => by omega) (fun e => by omega)), f2.heap hA (fun e => e.elim (fun e => by omega) (fun e => by omega)), ⟨by omega, by omega⟩, by omega, by omega, hlt.1, hlt.2,
      nobs8 (nob_str _) (nob_sl _ _ _) (nob_int _) (nob_str _) (nob_int _) (nob_int _) (nob_sl _ _ _) (nob_sl _ _ _)⟩
  clear K2 r1 f1 r2 f2 fA hA HF0 HB0 HS0
  generalize hQM : w1.heap.size = M at *
  clear hQM
  generalize hQR : w.heap.size = R at *
  have HMS : Hid (MS w 53 p q R M #[.string ⟨#[]⟩, .slice none 0 0, .int .i64 0, .string ⟨#[]⟩, .int .i64 0, .int .i64 0, .slice none 0 0, .slice none 0 0] #[.string nm, .slice none 0 0, .int .i64 0, .string ⟨#[]⟩, .int .i64 0, .int .i64 0, .slice none 0 0, .slice none 0 0] s2 w2) := ms
  clear ms
  go_upto_block 0 with fail
  go_cut [5] (fun i wc => ∃ (acc : List Ty) (st : Sb) (pv : Sv), MS w 53 p q R M #[.string ⟨#[]⟩, .slice none 0 0, .int .i64 0, .string ⟨#[]⟩, .int .i64 0, .int .i64 0, .slice none 0 0, .slice none 0 0] #[.string nm, .slice pv.a pv.n pv.c, .int .i64 0, .string ⟨#[]⟩, .int .i64 0, .int .i64 0, .slice none 0 0, .slice none 0 0] st wc ∧ Rw elTy w wc (.slice pv.a pv.n pv.c) acc ∧ dLoop dTy n [] s2 = (acc, st) ∧ ∀ t ∈ acc, t.c.size ≤ 20)
  case first =>
    go_wp2_with fail
    go_loopw [5] (fun i wr => ∃ (acc : List Ty) (st : Sb) (pv : Sv), i = .int .i64 (acc.length : Int) ∧ acc.length ≤ n ∧ MS w 53 p q R M #[.string ⟨#[]⟩, .slice none 0 0, .int .i64 0, .string ⟨#[]⟩, .int .i64 0, .int .i64 0, .slice none 0 0, .slice none 0 0] #[.string nm, .slice pv.a pv.n pv.c, .int .i64 0, .string ⟨#[]⟩, .int .i64 0, .int .i64 0, .slice none 0 0, .slice none 0 0] st wr ∧ Rw elTy w wr (.slice pv.a pv.n pv.c) acc ∧ dLoop dTy n [] s2 = dLoop dTy (n - acc.length) acc st ∧ ∀ t ∈ acc, t.c.size ≤ 20) (fun i _ => n - (intOf i).toNat)
    case atStart => exact ⟨[], s2, ⟨none, 0, 0⟩, rfl, Nat.zero_le _, HMS.out, Rw.nil _ _ _, rfl, fun t ht => by simp at ht⟩
    case round =>
      clear HMS
      obtain ⟨acc, ⟨l, b⟩, pv, rfl, hacc, ms, rw1, hL, hfit⟩ := hrel
      obtain ⟨⟨c0, c1, c2, c3, c4, c5, c6, c7⟩, z0, z1, z2, z3, z4, z5, z6, z7⟩ := cells8z ms.hM
      obtain ⟨d0, d1, dz⟩ := ms.ds.cells
      simp only [] at d1
      by_cases hlt2 : acc.length < n
      · cases b with
        | true =>
          have HE : Hid (dLoop dTy n [] s2 = (acc, (l, true))) := by show _ = _; rw [hL, dLoop_bad]
          have HM2 : Hid (_ ∧ _ ∧ _) := ⟨ms, rw1, hfit⟩
          clear hL ms rw1 hfit
          go_wp2_with fail
          go_meet
          exact ⟨acc, (l, true), pv, HM2.out.1, HM2.out.2.1, HE.out, HM2.out.2.2⟩
        | false =>
          have HG : Hid (dLoop dTy n [] s2 = dLoop dTy (n - (acc.length + 1)) (acc ++ [(dTy (l, false)).1]) (dTy (l, false)).2) := by show _ = _; rw [hL, dLoop_go dTy n acc.length acc l hlt2]
          have hft := dTy_fit (l, false) ms.ds.by_
          have KT := dType_any wr.drew p q (l, false) ms.drew.ds
          have HFIT : Hid (∀ t ∈ acc, t.c.size ≤ 20) := hfit
          clear hL hfit
          generalize dTy (l, false) = t3 at *
          obtain ⟨⟨xk, xc⟩, s3⟩ := t3
          simp only [] at KT HG hft
          have hbb : acc.length + ([⟨xk, xc⟩] : List Ty).length ≤ 1000000 := by simp; omega
          obtain ⟨pva, pvn, pvc⟩ := pv
          simp only [] at ms rw1 c1
          obtain ⟨po, pcap, epv⟩ := rw1.own.form
          simp only [Value.slice.injEq] at epv
          obtain ⟨rfl, rfl, rfl⟩ := epv
          go_wp2_with fail
          go_region_law (first | (refine step_apdH okTy _ rfl rfl (.tmp 28) (.tmp 31) rfl _ acc (by simp [Act.eval]) rw3a.own _ (by simp [Act.eval]) [⟨xk, xc⟩] hs3 (by simp) hbb ?_; intro v7 w7 o7 s7; obtain ⟨ms7, rw7⟩ := ms3a.row rw3a (by decide) o7 s7; obtain ⟨a7, c7', e7⟩ := o7.form; rw [List.length_append] at e7; subst e7; obtain ⟨⟨c0, c1, c2, c3, c4, c5, c6, c7⟩, z0, z1, z2, z3, z4, z5, z6, z7⟩ := cells8z ms7.hM) | (go_simp; go_at_call 29; refine KT.mono ?_; rintro e w3 ⟨rfl, r3, f3⟩; have ms3 := ms.drew.read r3 f3; have rw3 := rw1.drew.read ms.pl ms.ql f3; have hM3 := ms3.ltM; obtain ⟨⟨c0, c1, c2, c3, c4, c5, c6, c7⟩, z0, z1, z2, z3, z4, z5, z6, z7⟩ := cells8z ms3.hM; have hs3 := srcG_one okTy w3 ⟨xk, xc⟩; have rw3a := rw3.new ((Fr.refl no w3).alloc #[.int .i64 xk, .string xc] 46); have ms3a := ms3.new ((Fr.refl no w3).alloc #[.int .i64 xk, .string xc] 46)))
          all_goals (go_wp2_with fail; go_roundw; (case rel => exact ⟨acc ++ [⟨xk, xc⟩], s3, ⟨a7, acc.length + 1, c7'⟩, by simp, by simp; omega, ms7.set 1 _ (nob_sl _ _ _), rw7.set ms7.hM (by decide) 1 _, by rw [HG.out, List.length_append]; rfl, fun t ht => by (rcases List.mem_append.1 ht with ht | ht); exact HFIT.out t ht; (simp at ht; subst ht; exact hft)⟩); (case measure => simp [intOf]; omega))
      · have HE : Hid (dLoop dTy n [] s2 = (acc, (l, b))) := by show _ = _; rw [hL, show n - acc.length = 0 by omega]; rfl
        have HM2 : Hid (_ ∧ _ ∧ _) := ⟨ms, rw1, hfit⟩
        clear hL ms rw1 hfit
        go_wp2_with fail
        go_meet
        exact ⟨acc, (l, b), pv, HM2.out.1, HM2.out.2.1, HE.out, HM2.out.2.2⟩
  case rest =>
    clear HMS
    obtain ⟨ps, s3, pv, ms, rwp, hL, hfit⟩ := hcut
    rw [hL] at HD1
    have HFP : Hid (∀ t ∈ ps, t.c.size ≤ 20) := hfit
    clear hL hfit
    simp only [] at HD1
    obtain ⟨pva, pvn, pvc⟩ := pv
    simp only [] at ms rwp
    have KT := dType_any wc p q s3 ms.ds
    have hft := dTy_fit s3 ms.ds.by_
    obtain ⟨⟨c0, c1, c2, c3, c4, c5, c6, c7⟩, z0, z1, z2, z3, z4, z5, z6, z7⟩ := cells8z ms.hM
    have HM0 : Hid (_ ∧ _) := ⟨ms, rwp⟩
    clear ms rwp
    generalize dTy s3 = t4 at *
    obtain ⟨⟨rk, rc⟩, s4⟩ := t4
    simp only [] at KT HD1 hft
    go_wp2_with fail
    refine KT.mono ?_
    rintro x w3 ⟨rfl, r3, f3⟩
    have ms3 := HM0.out.1.read r3 f3
    have rw3 := HM0.out.2.read HM0.out.1.pl HM0.out.1.ql f3
    have msA : MS w 53 p q R M #[.string ⟨#[]⟩, .slice none 0 0, .int .i64 0, .string ⟨#[]⟩, .int .i64 0, .int .i64 0, .slice none 0 0, .slice none 0 0] #[.string nm, .slice pva pvn pvc, .int .i64 rk, .string rc, .int .i64 0, .int .i64 0, .slice none 0 0, .slice none 0 0] s4 ((w3.setCell ⟨M, 2, none⟩ (.int .i64 rk)).setCell ⟨M, 3, none⟩ (.string rc)) := (ms3.set 2 _ (nob_int _)).set 3 _ (nob_str _)
    have rwA := (rw3.set ms3.hM (by decide) 2 (.int .i64 rk)).set (ms3.set 2 (.int .i64 rk) (nob_int _)).hM (by decide) 3 (.string rc)
    clear c0 c1 c2 c3 c4 c5 c6 c7 z0 z1 z2 z3 z4 z5 z6 z7
    obtain ⟨⟨c0, c1, c2, c3, c4, c5, c6, c7⟩, z0, z1, z2, z3, z4, z5, z6, z7⟩ := cells8z ms3.hM
    have KN := dNum_any _ p q s4 msA.ds 32 (by omega) (by omega)
    have hlo := dN_fit 32 s4
    have hlo : (dN 32 s4).1 ≤ 32 := hlo
    have HMA : Hid (_ ∧ _) := ⟨msA, rwA⟩
    clear KT HM0 ms3 rw3 msA rwA r3 f3
    generalize dN 32 s4 = t5 at *
    obtain ⟨lon, s5⟩ := t5
    simp only [] at KN HD1 hlo
    go_wp2_with fail
    refine KN.mono ?_
    rintro x w4 ⟨rfl, r4, f4⟩
    have ms4 := HMA.out.1.read r4 f4
    have rw4 := HMA.out.2.read HMA.out.1.pl HMA.out.1.ql f4
    have msB : MS w 53 p q R M #[.string ⟨#[]⟩, .slice none 0 0, .int .i64 0, .string ⟨#[]⟩, .int .i64 0, .int .i64 0, .slice none 0 0, .slice none 0 0] #[.string nm, .slice pva pvn pvc, .int .i64 rk, .string rc, .int .i64 (lon : Int), .int .i64 0, .slice none 0 0, .slice none 0 0] s5 (w4.setCell ⟨M, 4, none⟩ (.int .i64 (lon : Int))) := ms4.set 4 _ (nob_int _)
    have rwB := rw4.set ms4.hM (by decide) 4 (.int .i64 (lon : Int))
    clear c0 c1 c2 c3 c4 c5 c6 c7 z0 z1 z2 z3 z4 z5 z6 z7
    obtain ⟨⟨c0, c1, c2, c3, c4, c5, c6, c7⟩, z0, z1, z2, z3, z4, z5, z6, z7⟩ := cells8z ms4.hM
    have KN2 := dNum_any _ p q s5 msB.ds 64 (by omega) (by omega)
    have hst := dN_fit 64 s5
    have hst : (dN 64 s5).1 ≤ 64 := hst
    have HMB : Hid (_ ∧ _) := ⟨msB, rwB⟩
    clear KN HMA ms4 rw4 msB rwB r4 f4
    generalize dN 64 s5 = t6 at *
    obtain ⟨ston, ⟨l6, b6⟩⟩ := t6
    simp only [] at KN2 HD1 hst
    go_wp2_with fail
    refine KN2.mono ?_
    rintro x w5 ⟨rfl, r5, f5⟩
    have ms5 := HMB.out.1.read r5 f5
    have rw5 := HMB.out.2.read HMB.out.1.pl HMB.out.1.ql f5
    have msC : MS w 53 p q R M #[.string ⟨#[]⟩, .slice none 0 0, .int .i64 0, .string ⟨#[]⟩, .int .i64 0, .int .i64 0, .slice none 0 0, .slice none 0 0] #[.string nm, .slice pva pvn pvc, .int .i64 rk, .string rc, .int .i64 (lon : Int), .int .i64 (ston : Int), .slice none 0 0, .slice none 0 0] (l6, b6) (w5.setCell ⟨M, 5, none⟩ (.int .i64 (ston : Int))) := ms5.set 5 _ (nob_int _)
    have rwC := rw5.set ms5.hM (by decide) 5 (.int .i64 (ston : Int))
    clear c0 c1 c2 c3 c4 c5 c6 c7 z0 z1 z2 z3 z4 z5 z6 z7
    obtain ⟨⟨c0, c1, c2, c3, c4, c5, c6, c7⟩, z0, z1, z2, z3, z4, z5, z6, z7⟩ := cells8z ms5.hM
    have hl6 : l6.length ≤ 1099511627776 := msC.ds.ln
    have KN3 := dNumR_any _ p q (l6, b6) msC.ds (l6.length : Int) (by omega) (by omega)
    obtain ⟨d0, d1, dz⟩ := msC.ds.cells
    obtain ⟨vq, hq1, hq2⟩ := msC.ds.rd
    obtain ⟨qo, qcap0, eq0, -⟩ := hq2.shape
    simp only [] at eq0 d1
    subst eq0
    have hcq := cell_of_one hq1
    have HMC : Hid (_ ∧ _) := ⟨msC, rwC⟩
    clear KN2 HMB ms5 rw5 msC rwC r5 f5 hq1 hq2
    generalize dN (l6.length : Int) (l6, b6) = t7 at *
    obtain ⟨kk, ⟨l7, b7⟩⟩ := t7
    simp only [] at KN3 HD1
    go_wp2_with fail
    refine KN3.mono ?_
    rintro x w6 ⟨rfl, r6, f6, rs6⟩
    have ms6 := HMC.out.1.read r6 f6
    have rw6 := HMC.out.2.read HMC.out.1.pl HMC.out.1.ql f6
    clear c0 c1 c2 c3 c4 c5 c6 c7 z0 z1 z2 z3 z4 z5 z6 z7
    clear KN3 HMC r6 f6 hcq d0 d1 dz
    have hl7 : l7.length ≤ 1099511627776 := ms6.ds.ln
    obtain ⟨d0, d1, dz⟩ := ms6.ds.cells
    simp only [] at d1
    cases b7 with
    | true =>
      have msE := ms6.bad true
      have rwE := rw6.bad (p := p) ms6.pl true
      obtain ⟨⟨c0, c1, c2, c3, c4, c5, c6, c7⟩, z0, z1, z2, z3, z4, z5, z6, z7⟩ := cells8z msE.hM
      obtain ⟨⟨y0, y1, y2, y3, y4, y5, y6, y7⟩, x0, x1, x2, x3, x4, x5, x6, x7⟩ := cells8z msE.hR
      simp only [] at msE
      have HMR : Hid (_ ∧ _) := ⟨msE, rwE⟩
      have HDE : Hid (D = (⟨nm, ps, ⟨rk, rc⟩, (lon : Int), (ston : Int), [], []⟩, (l7, true))) := by show _ = _; rw [HDM.out, HD1.out]; simp only []; rw [if_pos (by simp)]
      clear msE rwE
      go_wp2_with fail
      have FF := fr_chain8 (w6.setCell ⟨p, 1, none⟩ (.bool true)) R (.string nm) (.slice pva pvn pvc) (.int .i64 rk) (.string rc) (.int .i64 (lon : Int)) (.int .i64 (ston : Int)) (.slice none 0 0) (.slice none 0 0)
      refine bodyPost_ret (results_31 _ R _ _ _ _ _ _ _ _ (set_chain8 HMR.out.1.hR) _ rfl) rfl ?_
      have F2 := HMR.out.1.fin z53 (by omega) FF
      rw [HDE.out]
      exact ⟨⟨nm, ⟨pva, pvn, pvc⟩, ⟨rk, rc⟩, (lon : Int), (ston : Int), ⟨none, 0, 0⟩, ⟨none, 0, 0⟩⟩, rfl, ⟨rfl, rfl, rfl, rfl, HMR.out.2.fin HMR.out.1.hR (by decide) FF, OwnI.nil _, OwnG.nil _ _⟩, F2.1, F2.2, ⟨by unfold fitS; simp only []; omega, by unfold fitS; simp only []; omega, fun t ht => by have := HFP.out t ht; unfold fitS; omega⟩⟩
    | false =>
      obtain ⟨qb, qoff, qcap, g1, g2, g3, g4⟩ := rs6 rfl
      have hcq := cell_of_one g1
      by_cases hkl : l7.length < kk
      · have hkl' : (l7.length : Int) < (kk : Int) := by omega
        clear g1 g4
        have msE := ms6.bad true
        have rwE := rw6.bad (p := p) ms6.pl true
        obtain ⟨⟨c0, c1, c2, c3, c4, c5, c6, c7⟩, z0, z1, z2, z3, z4, z5, z6, z7⟩ := cells8z msE.hM
        obtain ⟨⟨y0, y1, y2, y3, y4, y5, y6, y7⟩, x0, x1, x2, x3, x4, x5, x6, x7⟩ := cells8z msE.hR
        simp only [] at msE
        have HMR : Hid (_ ∧ _) := ⟨msE, rwE⟩
        have HDE : Hid (D = (⟨nm, ps, ⟨rk, rc⟩, (lon : Int), (ston : Int), [], []⟩, (l7, true))) := by show _ = _; rw [HDM.out, HD1.out]; simp only []; rw [if_pos (.inr hkl)]
        clear msE rwE
        go_wp2_with fail
        have FF := fr_chain8 (w6.setCell ⟨p, 1, none⟩ (.bool true)) R (.string nm) (.slice pva pvn pvc) (.int .i64 rk) (.string rc) (.int .i64 (lon : Int)) (.int .i64 (ston : Int)) (.slice none 0 0) (.slice none 0 0)
        refine bodyPost_ret (results_31 _ R _ _ _ _ _ _ _ _ (set_chain8 HMR.out.1.hR) _ rfl) rfl ?_
        have F2 := HMR.out.1.fin z53 (by omega) FF
        rw [HDE.out]
        exact ⟨⟨nm, ⟨pva, pvn, pvc⟩, ⟨rk, rc⟩, (lon : Int), (ston : Int), ⟨none, 0, 0⟩, ⟨none, 0, 0⟩⟩, rfl, ⟨rfl, rfl, rfl, rfl, HMR.out.2.fin HMR.out.1.hR (by decide) FF, OwnI.nil _, OwnG.nil _ _⟩, F2.1, F2.2, ⟨by unfold fitS; simp only []; omega, by unfold fitS; simp only []; omega, fun t ht => by have := HFP.out t ht; unfold fitS; omega⟩⟩
      · have hkl' : ¬ (l7.length : Int) < (kk : Int) := by omega
        have hkc : (kk : Int) ≤ (qcap : Int) := by omega
        have hSl : Sl w6 (.slice (some ⟨qb, qoff, none⟩) kk qcap) (l7.take kk) := .inl ⟨qb, qoff, qcap, by rw [List.length_take, Nat.min_eq_left (by omega)], by rw [List.length_take]; omega, g3, fun i c hi => g4 i c (by
          have hik : i < kk := by
            have := (List.getElem?_eq_some_iff.1 hi).1
            rw [List.length_take] at this
            omega
          rw [List.getElem?_take_of_lt hik] at hi
          exact hi)⟩
        have hby7 := ms6.ds.by_
        simp only [] at hby7
        have G := docGet_any w6 _ (l7.take kk) hSl (fun c hc => hby7 c (List.mem_of_mem_take hc)) (by rw [List.length_take]; omega)
        have HRS : Hid (Rs 78 w6 q l7) := rs6 rfl
        have HM6 : Hid (_ ∧ _) := ⟨ms6, rw6⟩
        have HBY : Hid (∀ c ∈ l7, c < 256) := hby7
        have HDC : Hid (D = (⟨nm, ps, ⟨rk, rc⟩, (lon : Int), (ston : Int), (dM2 kk (l7, false)).1.1, (dM2 kk (l7, false)).1.2⟩, (dM2 kk (l7, false)).2)) := by
          show _ = _
          rw [HDM.out, HD1.out]
          simp only []
          rw [if_neg (by simp; omega)]
        have HD2 : Hid (dM2 kk (l7, false) = (((gt (l7.take kk)).1, (dLoop dHd (dN 16 (l7.drop kk, false || decide ((gt (l7.take kk)).2 ≠ 0))).1 [] (dN 16 (l7.drop kk, false || decide ((gt (l7.take kk)).2 ≠ 0))).2).1), (dLoop dHd (dN 16 (l7.drop kk, false || decide ((gt (l7.take kk)).2 ≠ 0))).1 [] (dN 16 (l7.drop kk, false || decide ((gt (l7.take kk)).2 ≠ 0))).2).2)) := rfl
        simp only [Bool.false_or] at HD2
        clear HDM HD1 rs6 hSl hby7 ms6 rw6 g1 g4
        generalize dM2 kk (l7, false) = D2 at *
        generalize gt (l7.take kk) = gg at *
        obtain ⟨cd, ge⟩ := gg
        simp only [] at G HD2
        go_wp2_with fail
        refine G.mono ?_
        rintro x w7 ⟨vc, rfl, oc7, f7⟩
        obtain ⟨co, ccap, rfl⟩ := oc7.form
        have ms7 := HM6.out.1.new f7
        have rw7 := HM6.out.2.new f7
        have rs7 := HRS.out.kept f7
        clear HM6 HRS f7 G d0 d1 dz hcq
        have HI7 : Hid (_ ∧ _ ∧ _ ∧ _) := ⟨ms7, rw7, oc7, rs7⟩
        clear ms7 rw7 oc7 rs7
        go_upto_region 15 with fail
        go_cut [4] (fun x wc => x = .int .i64 (kk : Int) ∧ MS w 53 p q R M #[.string ⟨#[]⟩, .slice none 0 0, .int .i64 0, .string ⟨#[]⟩, .int .i64 0, .int .i64 0, .slice none 0 0, .slice none 0 0] #[.string nm, .slice pva pvn pvc, .int .i64 rk, .string rc, .int .i64 (lon : Int), .int .i64 (ston : Int), .slice none 0 0, .slice none 0 0] (l7, decide (ge ≠ 0)) wc ∧ Rw elTy w wc (.slice pva pvn pvc) ps ∧ OwnI wc (.slice co cd.length ccap) cd ∧ Rs 78 wc q l7)
        case first =>
          obtain ⟨d0, d1, dz⟩ := HI7.out.1.ds.cells
          simp only [] at d1
          have S := fun bb : Bool => And.intro (HI7.out.1.bad bb) (And.intro (HI7.out.2.1.bad (p := p) HI7.out.1.pl bb) (And.intro (HI7.out.2.2.1.setB HI7.out.1.ds.blk (by decide) 1 (.bool bb)) (HI7.out.2.2.2.beside (fr_one w7 p 1 (.bool bb)) HI7.out.1.ds.ne HI7.out.1.ds.nob)))
          by_cases hge : ge = 0
          · have HT : Hid (_ ∧ _) := And.intro (S false) (show decide (ge ≠ 0) = false from decide_eq_false (by omega))
            clear S
            subst hge
            go_wp2_with fail
            go_meet
            exact ⟨rfl, HT.out.1.1, HT.out.1.2.1, HT.out.1.2.2.1, HT.out.1.2.2.2⟩
          · have h1 : ((ge : Int) == 0) = false := by simp; omega
            have h2 : ((ge : Int) != 0) = true := by simp; omega
            have HT : Hid (_ ∧ _) := And.intro (S true) (show decide (ge ≠ 0) = true from decide_eq_true hge)
            clear S
            go_wp2_with fail
            go_meet
            rw [HT.out.2]
            exact ⟨rfl, HT.out.1.1, HT.out.1.2.1, HT.out.1.2.2.1, HT.out.1.2.2.2⟩
        case rest =>
          obtain ⟨rfl, ms8, rw8, oc8, rs8⟩ := hcut
          clear HI7
          generalize hgb : decide (ge ≠ 0) = gb at *
          clear hgb
          obtain ⟨⟨c0, c1, c2, c3, c4, c5, c6, c7⟩, z0, z1, z2, z3, z4, z5, z6, z7⟩ := cells8z ms8.hM
          have msG : MS w 53 p q R M #[.string ⟨#[]⟩, .slice none 0 0, .int .i64 0, .string ⟨#[]⟩, .int .i64 0, .int .i64 0, .slice none 0 0, .slice none 0 0] #[.string nm, .slice pva pvn pvc, .int .i64 rk, .string rc, .int .i64 (lon : Int), .int .i64 (ston : Int), .slice co cd.length ccap, .slice none 0 0] (l7, gb) (wc.setCell ⟨M, 6, none⟩ (.slice co cd.length ccap)) := ms8.set 6 _ (nob_sl _ _ _)
          have HIG : Hid (_ ∧ _ ∧ _ ∧ _) := ⟨msG, rw8.set ms8.hM (by decide) 6 (.slice co cd.length ccap), oc8.setB ms8.hM (by decide) 6 (.slice co cd.length ccap), rs8.beside (fr_one wc M 6 (.slice co cd.length ccap)) (by have := ms8.nM; have := ms8.ql; omega) ms8.nobM⟩
          clear ms8 rw8 oc8 rs8 msG
          go_upto_region 17 with fail
          generalize hWG : wc.setCell ⟨M, 6, none⟩ (.slice co cd.length ccap) = WG at *
          clear hWG
          clear c0 c1 c2 c3 c4 c5 c6 c7 z0 z1 z2 z3 z4 z5 z6 z7
          go_cut [4] (fun x wc => x = .int .i64 (kk : Int) ∧ MS w 53 p q R M #[.string ⟨#[]⟩, .slice none 0 0, .int .i64 0, .string ⟨#[]⟩, .int .i64 0, .int .i64 0, .slice none 0 0, .slice none 0 0] #[.string nm, .slice pva pvn pvc, .int .i64 rk, .string rc, .int .i64 (lon : Int), .int .i64 (ston : Int), .slice co cd.length ccap, .slice none 0 0] (l7.drop kk, gb) wc ∧ Rw elTy w wc (.slice pva pvn pvc) ps ∧ OwnI wc (.slice co cd.length ccap) cd)
          case first =>
            obtain ⟨ms9, rw9, oc9, rs9⟩ := HIG.out
            obtain ⟨d0, d1, dz⟩ := ms9.ds.cells
            obtain ⟨qb, qoff, qcap, g1, g2, g3, g4⟩ := rs9
            have hcq := cell_of_one g1
            have hfq := free_of_one g1
            have MV : ∀ off', (qcap ≠ kk → off' = off' ∧ off' = qoff + kk) → _ := fun off' ho => Rs.moved (k := kk) (off' := off') g1 g2 g3 g4 (by omega) (fun h => (ho h).2)
            have hdl : (l7.drop kk).length ≤ 1099511627776 := by rw [List.length_drop]; omega
            by_cases hck : qcap = kk
            · have M1 := MV qoff (fun h => absurd hck h)
              have HT : Hid (_ ∧ _ ∧ _) := ⟨ms9.stepq M1.1.rd M1.2 (by_drop HBY.out kk) hdl, rw9.stepq ms9.ql M1.2, oc9.qB ms9.ds M1.2⟩
              have R1 := fun W => run_fromc W qb qoff l7.length qcap kk (by omega) hck
              have R2 := fun W => run_fromc' W qb qoff l7.length qcap kk (by omega) hck
              clear MV M1 ms9 rw9 oc9 g1 g4 HIG hck
              go_region
              all_goals (go_wp2_with fail; go_meet; exact ⟨rfl, HT.out.1.drew, HT.out.2.1.drew, HT.out.2.2.newB (Fr.refl no _).drew⟩)
            · have M1 := MV (qoff + kk) (fun _ => ⟨rfl, rfl⟩)
              have HT : Hid (_ ∧ _ ∧ _) := ⟨ms9.stepq M1.1.rd M1.2 (by_drop HBY.out kk) hdl, rw9.stepq ms9.ql M1.2, oc9.qB ms9.ds M1.2⟩
              have R1 := fun W => run_fromk W qb qoff l7.length qcap kk (by omega) hck
              have R2 := fun W => run_fromk' W qb qoff l7.length qcap kk (by omega) hck
              clear MV M1 ms9 rw9 oc9 g1 g4 HIG hck
              go_region
              all_goals (go_wp2_with fail; go_meet; exact ⟨rfl, HT.out.1.drew, HT.out.2.1.drew, HT.out.2.2.newB (Fr.refl no _).drew⟩)
          case rest =>
            clear HIG
            obtain ⟨rfl, ms9, rw9, oc9⟩ := hcut
            have KN := dNum_any _ p q (l7.drop kk, gb) ms9.ds 16 (by omega) (by omega)
            have hnh := dN_fit 16 (l7.drop kk, gb)
            have hnh : (dN 16 (l7.drop kk, gb)).1 ≤ 16 := hnh
            generalize dN 16 (l7.drop kk, gb) = ty at *
            obtain ⟨nh, s9⟩ := ty
            simp only [] at KN HD2 hnh
            have HI9 : Hid (_ ∧ _ ∧ _) := ⟨ms9, rw9, oc9⟩
            clear ms9 rw9 oc9
            go_wp2_with fail
            refine KN.mono ?_
            rintro x wA ⟨rfl, rA, fA⟩
            have msA := HI9.out.1.read rA fA
            have HIA : Hid (_ ∧ _ ∧ _) := ⟨msA, HI9.out.2.1.read HI9.out.1.pl HI9.out.1.ql fA, HI9.out.2.2.readB HI9.out.1.ds fA⟩
            clear KN HI9 msA rA fA
            go_upto_block 2 with fail
            go_cut [8] (fun i wc => ∃ (acc : List Hd) (st : Sb) (hv : Sv), MS w 53 p q R M #[.string ⟨#[]⟩, .slice none 0 0, .int .i64 0, .string ⟨#[]⟩, .int .i64 0, .int .i64 0, .slice none 0 0, .slice none 0 0] #[.string nm, .slice pva pvn pvc, .int .i64 rk, .string rc, .int .i64 (lon : Int), .int .i64 (ston : Int), .slice co cd.length ccap, .slice hv.a hv.n hv.c] st wc ∧ Rw elTy w wc (.slice pva pvn pvc) ps ∧ OwnI wc (.slice co cd.length ccap) cd ∧ Rw elHd w wc (.slice hv.a hv.n hv.c) acc ∧ dLoop dHd nh [] s9 = (acc, st))
            case first =>
              go_wp2_with fail
              go_loopw [8] (fun i wr => ∃ (acc : List Hd) (st : Sb) (hv : Sv), i = .int .i64 (acc.length : Int) ∧ acc.length ≤ nh ∧ MS w 53 p q R M #[.string ⟨#[]⟩, .slice none 0 0, .int .i64 0, .string ⟨#[]⟩, .int .i64 0, .int .i64 0, .slice none 0 0, .slice none 0 0] #[.string nm, .slice pva pvn pvc, .int .i64 rk, .string rc, .int .i64 (lon : Int), .int .i64 (ston : Int), .slice co cd.length ccap, .slice hv.a hv.n hv.c] st wr ∧ Rw elTy w wr (.slice pva pvn pvc) ps ∧ OwnI wr (.slice co cd.length ccap) cd ∧ Rw elHd w wr (.slice hv.a hv.n hv.c) acc ∧ dLoop dHd nh [] s9 = dLoop dHd (nh - acc.length) acc st) (fun i _ => nh - (intOf i).toNat)
              case atStart => exact ⟨[], s9, ⟨none, 0, 0⟩, rfl, Nat.zero_le _, HIA.out.1, HIA.out.2.1, HIA.out.2.2, Rw.nil _ _ _, rfl⟩
              case round =>
                clear HIA
                obtain ⟨acc, ⟨l, b⟩, ⟨hva, hvn, hvc⟩, rfl, hacc, ms, rwt, oc, rwh, hL⟩ := hrel
                simp only [] at ms rwh
                obtain ⟨⟨c0, c1, c2, c3, c4, c5, c6, c7⟩, z0, z1, z2, z3, z4, z5, z6, z7⟩ := cells8z ms.hM
                obtain ⟨d0, d1, dz⟩ := ms.ds.cells
                simp only [] at d1
                by_cases hlt2 : acc.length < nh
                · cases b with
                  | true =>
                    have HM2 : Hid (_ ∧ _ ∧ _ ∧ _ ∧ dLoop dHd nh [] s9 = (acc, (l, true))) := ⟨ms, rwt, oc, rwh, by rw [hL, dLoop_bad]⟩
                    clear hL ms rwt oc rwh
                    go_wp2_with fail
                    go_meet
                    exact ⟨acc, (l, true), ⟨hva, hvn, hvc⟩, HM2.out.1, HM2.out.2.1, HM2.out.2.2.1, HM2.out.2.2.2.1, HM2.out.2.2.2.2⟩
                  | false =>
                    have HG : Hid (dLoop dHd nh [] s9 = dLoop dHd (nh - (acc.length + 1)) (acc ++ [(dHd (l, false)).1]) (dHd (l, false)).2) := by show _ = _; rw [hL, dLoop_go dHd nh acc.length acc l hlt2]
                    have HDH : Hid (dHd (l, false) = (⟨((dN 999 (l, false)).1 : Int), ((dN 999 (dN 999 (l, false)).2).1 : Int), ((dN 999 (dN 999 (dN 999 (l, false)).2).2).1 : Int), ((dN 999 (dN 999 (dN 999 (dN 999 (l, false)).2).2).2).1 : Int) - 1, ((dN 999 (dN 999 (dN 999 (dN 999 (dN 999 (l, false)).2).2).2).2).1 : Int)⟩, (dN 999 (dN 999 (dN 999 (dN 999 (dN 999 (l, false)).2).2).2).2).2)) := rfl
                    obtain ⟨po, pcap, epv⟩ := rwh.own.form
                    simp only [Value.slice.injEq] at epv
                    obtain ⟨rfl, rfl, rfl⟩ := epv
                    clear hL
                    have K1 := dNum_any wr p q (l, false) ms.ds 999 (by omega) (by omega)
                    have k1 := dN_fit 999 (l, false)
                    have k1 : (dN 999 (l, false)).1 ≤ 999 := k1
                    generalize dHd (l, false) = DH at *
                    generalize dN 999 (l, false) = y1 at *
                    obtain ⟨n1, t1⟩ := y1
                    simp only [] at K1 HDH k1
                    have HI0 : Hid (_ ∧ _ ∧ _ ∧ _) := ⟨ms, rwt, oc, rwh⟩
                    clear ms rwt oc rwh
                    go_wp2_with fail
                    refine K1.mono ?_
                    rintro x v1 ⟨rfl, r1, f1⟩
                    clear K1
                    clear c0 c1 c2 c3 c4 c5 c6 c7 z0 z1 z2 z3 z4 z5 z6 z7
                    have ms1 := HI0.out.1.read r1 f1
                    have rwt1 := HI0.out.2.1.read HI0.out.1.pl HI0.out.1.ql f1
                    have oc1 := HI0.out.2.2.1.readB HI0.out.1.ds f1
                    have rwh1 := HI0.out.2.2.2.read HI0.out.1.pl HI0.out.1.ql f1
                    clear HI0 r1 f1
                    have hbH := heap_alloc_new v1 (.cells #[.int .i64 (n1 : Int), .int .i64 0, .int .i64 0, .int .i64 0, .int .i64 0] 59)
                    have fH : Fr no v1 (v1.alloc (.cells #[.int .i64 (n1 : Int), .int .i64 0, .int .i64 0, .int .i64 0, .int .i64 0] 59)) := (Fr.refl no v1).alloc _ _
                    have HQ : Hid (Value.ownBlock (.slice hva acc.length hvc) ≠ some v1.heap.size ∧ v1.heap.size ≠ R ∧ v1.heap.size ≠ M ∧ w.heap.size ≤ v1.heap.size ∧ v1.heap.size ≠ p ∧ v1.heap.size ≠ q) := by
                      have q1 := ms1.ltR
                      have q2 := ms1.ltM
                      have q3 := ms1.pl
                      have q4 := ms1.ql
                      have q5 := ms1.fr.size
                      exact ⟨fun e => by have := rwh1.own.lt e; omega, by omega, by omega, q5, by omega, by omega⟩
                    replace ms1 := ms1.new fH
                    replace rwt1 := rwt1.new fH
                    replace oc1 := oc1.newB fH
                    replace rwh1 := rwh1.new fH
                    have K2 := dNum_any _ p q t1 ms1.ds 999 (by omega) (by omega)
                    have k2 := dN_fit 999 t1
                    have k2 : (dN 999 t1).1 ≤ 999 := k2
                    generalize dN 999 t1 = y2 at *
                    obtain ⟨n2, t2⟩ := y2
                    simp only [] at K2 HDH k2
                    have HI : Hid (_ ∧ _ ∧ _ ∧ _ ∧ _) := ⟨ms1, rwt1, oc1, rwh1, hbH⟩
                    clear ms1 rwt1 oc1 rwh1 hbH fH
                    go_wp2_with fail
                    refine K2.mono ?_
                    rintro x v2 ⟨rfl, r, f⟩
                    clear K2
                    generalize hQH : v1.heap.size = Q at *
                    clear hQH
                    have ms1 := HI.out.1.read r f
                    have rwt1 := HI.out.2.1.read HI.out.1.pl HI.out.1.ql f
                    have oc1 := HI.out.2.2.1.readB HI.out.1.ds f
                    have rwh1 := HI.out.2.2.2.1.read HI.out.1.pl HI.out.1.ql f
                    have hbH := f.heap HI.out.2.2.2.2 (fun e => e.elim (fun e => HQ.out.2.2.2.2.1 e) (fun e => HQ.out.2.2.2.2.2 e))
                    clear HI r f
                    obtain ⟨⟨h0, h1, h2, h3, h4⟩, y0, y1, y2, y3, y4⟩ := cells5z hbH
                    have nbH : ∀ u ∈ (#[.int .i64 (n1 : Int), .int .i64 0, .int .i64 0, .int .i64 0, .int .i64 0] : Array Value).toList, nob u := nobs5 (nob_int _) (nob_int _) (nob_int _) (nob_int _) (nob_int _)
                    have ms2 := ms1.other hbH nbH HQ.out.2.1 HQ.out.2.2.1 HQ.out.2.2.2.1 1 (.int .i64 (n2 : Int))
                    have rwt2 := rwt1.set hbH (by decide) 1 (.int .i64 (n2 : Int))
                    have oc2 := oc1.setB hbH (by decide) 1 (.int .i64 (n2 : Int))
                    have rwh2 := rwh1.other HQ.out.1 1 (.int .i64 (n2 : Int))
                    have hbH2 : (v2.setCell ⟨Q, 1, none⟩ (.int .i64 (n2 : Int))).heap[Q]? = some (.cells #[.int .i64 (n1 : Int), .int .i64 (n2 : Int), .int .i64 0, .int .i64 0, .int .i64 0] 59 (0, 0)) := set_at hbH 1 _
                    have K3 := dNum_any _ p q t2 ms2.ds 999 (by omega) (by omega)
                    have k3 := dN_fit 999 t2
                    have k3 : (dN 999 t2).1 ≤ 999 := k3
                    generalize dN 999 t2 = yy at *
                    obtain ⟨n3, t3⟩ := yy
                    simp only [] at K3 HDH k3
                    have HI : Hid (_ ∧ _ ∧ _ ∧ _ ∧ _) := ⟨ms2, rwt2, oc2, rwh2, hbH2⟩
                    clear ms1 rwt1 oc1 rwh1 hbH nbH ms2 rwt2 oc2 rwh2 hbH2
                    go_wp2_with fail
                    refine K3.mono ?_
                    rintro x v3 ⟨rfl, r, f⟩
                    clear K3
                    have ms1 := HI.out.1.read r f
                    have rwt1 := HI.out.2.1.read HI.out.1.pl HI.out.1.ql f
                    have oc1 := HI.out.2.2.1.readB HI.out.1.ds f
                    have rwh1 := HI.out.2.2.2.1.read HI.out.1.pl HI.out.1.ql f
                    have hbH := f.heap HI.out.2.2.2.2 (fun e => e.elim (fun e => HQ.out.2.2.2.2.1 e) (fun e => HQ.out.2.2.2.2.2 e))
                    clear HI r f
                    clear h0 h1 h2 h3 h4 y0 y1 y2 y3 y4
                    obtain ⟨⟨h0, h1, h2, h3, h4⟩, y0, y1, y2, y3, y4⟩ := cells5z hbH
                    have nbH : ∀ u ∈ (#[.int .i64 (n1 : Int), .int .i64 (n2 : Int), .int .i64 0, .int .i64 0, .int .i64 0] : Array Value).toList, nob u := nobs5 (nob_int _) (nob_int _) (nob_int _) (nob_int _) (nob_int _)
                    have ms2 := ms1.other hbH nbH HQ.out.2.1 HQ.out.2.2.1 HQ.out.2.2.2.1 2 (.int .i64 (n3 : Int))
                    have rwt2 := rwt1.set hbH (by decide) 2 (.int .i64 (n3 : Int))
                    have oc2 := oc1.setB hbH (by decide) 2 (.int .i64 (n3 : Int))
                    have rwh2 := rwh1.other HQ.out.1 2 (.int .i64 (n3 : Int))
                    have hbH2 : (v3.setCell ⟨Q, 2, none⟩ (.int .i64 (n3 : Int))).heap[Q]? = some (.cells #[.int .i64 (n1 : Int), .int .i64 (n2 : Int), .int .i64 (n3 : Int), .int .i64 0, .int .i64 0] 59 (0, 0)) := set_at hbH 2 _
                    have K4 := dNum_any _ p q t3 ms2.ds 999 (by omega) (by omega)
                    have k4 := dN_fit 999 t3
                    have k4 : (dN 999 t3).1 ≤ 999 := k4
                    generalize dN 999 t3 = yy at *
                    obtain ⟨n4, t4⟩ := yy
                    simp only [] at K4 HDH k4
                    have HI : Hid (_ ∧ _ ∧ _ ∧ _ ∧ _) := ⟨ms2, rwt2, oc2, rwh2, hbH2⟩
                    clear ms1 rwt1 oc1 rwh1 hbH nbH ms2 rwt2 oc2 rwh2 hbH2
                    go_wp2_with fail
                    refine K4.mono ?_
                    rintro x v4 ⟨rfl, r, f⟩
                    clear K4
                    have ms1 := HI.out.1.read r f
                    have rwt1 := HI.out.2.1.read HI.out.1.pl HI.out.1.ql f
                    have oc1 := HI.out.2.2.1.readB HI.out.1.ds f
                    have rwh1 := HI.out.2.2.2.1.read HI.out.1.pl HI.out.1.ql f
                    have hbH := f.heap HI.out.2.2.2.2 (fun e => e.elim (fun e => HQ.out.2.2.2.2.1 e) (fun e => HQ.out.2.2.2.2.2 e))
                    clear HI r f
                    clear h0 h1 h2 h3 h4 y0 y1 y2 y3 y4
                    obtain ⟨⟨h0, h1, h2, h3, h4⟩, y0, y1, y2, y3, y4⟩ := cells5z hbH
                    have nbH : ∀ u ∈ (#[.int .i64 (n1 : Int), .int .i64 (n2 : Int), .int .i64 (n3 : Int), .int .i64 0, .int .i64 0] : Array Value).toList, nob u := nobs5 (nob_int _) (nob_int _) (nob_int _) (nob_int _) (nob_int _)
                    have ms2 := ms1.other hbH nbH HQ.out.2.1 HQ.out.2.2.1 HQ.out.2.2.2.1 3 (.int .i64 ((n4 : Int) - 1))
                    have rwt2 := rwt1.set hbH (by decide) 3 (.int .i64 ((n4 : Int) - 1))
                    have oc2 := oc1.setB hbH (by decide) 3 (.int .i64 ((n4 : Int) - 1))
                    have rwh2 := rwh1.other HQ.out.1 3 (.int .i64 ((n4 : Int) - 1))
                    have hbH2 : (v4.setCell ⟨Q, 3, none⟩ (.int .i64 ((n4 : Int) - 1))).heap[Q]? = some (.cells #[.int .i64 (n1 : Int), .int .i64 (n2 : Int), .int .i64 (n3 : Int), .int .i64 ((n4 : Int) - 1), .int .i64 0] 59 (0, 0)) := set_at hbH 3 _
                    have K5 := dNum_any _ p q t4 ms2.ds 999 (by omega) (by omega)
                    have k5 := dN_fit 999 t4
                    have k5 : (dN 999 t4).1 ≤ 999 := k5
                    generalize dN 999 t4 = yy at *
                    obtain ⟨n5, t5⟩ := yy
                    simp only [] at K5 HDH k5
                    have HI : Hid (_ ∧ _ ∧ _ ∧ _ ∧ _) := ⟨ms2, rwt2, oc2, rwh2, hbH2⟩
                    clear ms1 rwt1 oc1 rwh1 hbH nbH ms2 rwt2 oc2 rwh2 hbH2
                    go_wp2_with fail
                    refine K5.mono ?_
                    rintro x v5 ⟨rfl, r, f⟩
                    clear K5
                    have ms1 := HI.out.1.read r f
                    have rwt1 := HI.out.2.1.read HI.out.1.pl HI.out.1.ql f
                    have oc1 := HI.out.2.2.1.readB HI.out.1.ds f
                    have rwh1 := HI.out.2.2.2.1.read HI.out.1.pl HI.out.1.ql f
                    have hbH := f.heap HI.out.2.2.2.2 (fun e => e.elim (fun e => HQ.out.2.2.2.2.1 e) (fun e => HQ.out.2.2.2.2.2 e))
                    clear HI r f
                    clear h0 h1 h2 h3 h4 y0 y1 y2 y3 y4
                    obtain ⟨⟨h0, h1, h2, h3, h4⟩, y0, y1, y2, y3, y4⟩ := cells5z hbH
                    have nbH : ∀ u ∈ (#[.int .i64 (n1 : Int), .int .i64 (n2 : Int), .int .i64 (n3 : Int), .int .i64 ((n4 : Int) - 1), .int .i64 0] : Array Value).toList, nob u := nobs5 (nob_int _) (nob_int _) (nob_int _) (nob_int _) (nob_int _)
                    have ms2 := ms1.other hbH nbH HQ.out.2.1 HQ.out.2.2.1 HQ.out.2.2.2.1 4 (.int .i64 (n5 : Int))
                    have rwt2 := rwt1.set hbH (by decide) 4 (.int .i64 (n5 : Int))
                    have oc2 := oc1.setB hbH (by decide) 4 (.int .i64 (n5 : Int))
                    have rwh2 := rwh1.other HQ.out.1 4 (.int .i64 (n5 : Int))
                    have hbH2 : (v5.setCell ⟨Q, 4, none⟩ (.int .i64 (n5 : Int))).heap[Q]? = some (.cells #[.int .i64 (n1 : Int), .int .i64 (n2 : Int), .int .i64 (n3 : Int), .int .i64 ((n4 : Int) - 1), .int .i64 (n5 : Int)] 59 (0, 0)) := set_at hbH 4 _
                    have HI : Hid (_ ∧ _ ∧ _ ∧ _ ∧ _) := ⟨ms2, rwt2, oc2, rwh2, hbH2⟩
                    clear ms1 rwt1 oc1 rwh1 hbH nbH ms2 rwt2 oc2 rwh2 hbH2
                    go_upto_region 27 with fail
                    generalize hW5 : v5.setCell ⟨Q, 4, none⟩ (.int .i64 (n5 : Int)) = W5 at *
                    clear hW5 h0 h1 h2 h3 h4 y0 y1 y2 y3 y4
                    obtain ⟨ms5, rwt5, oc5, rwh5, hb5⟩ := HI.out
                    obtain ⟨⟨h0, h1, h2, h3, h4⟩, -⟩ := cells5z hb5
                    obtain ⟨⟨c0, c1, c2, c3, c4, c5, c6, c7⟩, z0, z1, z2, z3, z4, z5, z6, z7⟩ := cells8z ms5.hM
                    have fB : Fr no W5 (W5.alloc (.cells #[.int .i64 (n1 : Int), .int .i64 (n2 : Int), .int .i64 (n3 : Int), .int .i64 ((n4 : Int) - 1), .int .i64 (n5 : Int)] 59)) := (Fr.refl no W5).alloc _ _
                    have hS : Src Tryz.prog 5 51 (.slice (some ⟨W5.heap.size, 0, none⟩) 1 1) ([⟨(n1 : Int), (n2 : Int), (n3 : Int), (n4 : Int) - 1, (n5 : Int)⟩] : List Hd).length (cg elHd [⟨(n1 : Int), (n2 : Int), (n3 : Int), (n4 : Int) - 1, (n5 : Int)⟩]) (W5.alloc (.cells #[.int .i64 (n1 : Int), .int .i64 (n2 : Int), .int .i64 (n3 : Int), .int .i64 ((n4 : Int) - 1), .int .i64 (n5 : Int)] 59)) := srcG_one okHd W5 ⟨(n1 : Int), (n2 : Int), (n3 : Int), (n4 : Int) - 1, (n5 : Int)⟩
                    have rwhA := rwh5.new fB
                    have msA := ms5.new fB
                    have rwtA := rwt5.new fB
                    have ocA := oc5.newB fB
                    have hbb : acc.length + ([⟨(n1 : Int), (n2 : Int), (n3 : Int), (n4 : Int) - 1, (n5 : Int)⟩] : List Hd).length ≤ 1000000 := by simp; omega
                    have HB : Hid (∀ v7 w7, OwnG elHd w7 v7 (acc ++ [⟨(n1 : Int), (n2 : Int), (n3 : Int), (n4 : Int) - 1, (n5 : Int)⟩]) → Sp no (.slice hva acc.length hvc) (W5.alloc (.cells #[.int .i64 (n1 : Int), .int .i64 (n2 : Int), .int .i64 (n3 : Int), .int .i64 ((n4 : Int) - 1), .int .i64 (n5 : Int)] 59)) v7 w7 → (MS w 53 p q R M #[.string ⟨#[]⟩, .slice none 0 0, .int .i64 0, .string ⟨#[]⟩, .int .i64 0, .int .i64 0, .slice none 0 0, .slice none 0 0] #[.string nm, .slice pva pvn pvc, .int .i64 rk, .string rc, .int .i64 (lon : Int), .int .i64 (ston : Int), .slice co cd.length ccap, .slice hva acc.length hvc] t5 w7) ∧ Rw elTy w w7 (.slice pva pvn pvc) ps ∧ OwnI w7 (.slice co cd.length ccap) cd ∧ Rw elHd w w7 v7 (acc ++ [⟨(n1 : Int), (n2 : Int), (n3 : Int), (n4 : Int) - 1, (n5 : Int)⟩])) := fun v7 w7 o7 s7 => by
                      have z := msA.row rwhA (by decide) o7 s7
                      exact ⟨z.1, rwtA.beside rwhA.own (by decide) s7, ocA.rowB rwhA.own (by decide) s7, z.2⟩
                    have hOA := rwhA.own
                    clear HI ms5 rwt5 oc5 rwh5 hb5 fB rwhA msA rwtA ocA
                    go_wp2_with (at_builtin; refine wpList_apdG okHd _ rfl rfl (.tmp 145) (.tmp 147) rfl _ acc rfl hOA _ rfl [⟨(n1 : Int), (n2 : Int), (n3 : Int), (n4 : Int) - 1, (n5 : Int)⟩] hS (by simp) hbb ?_; intro v7 w7 o7 s7; obtain ⟨ms7, rwt7, oc7, rwh7⟩ := HB.out v7 w7 o7 s7; obtain ⟨a7, c7x, e7⟩ := o7.form; rw [List.length_append] at e7; subst e7; obtain ⟨⟨x0, x1, x2, x3, x4, x5, x6, x7⟩, u0, u1z, u2z, u3z, u4z, u5z, u6z, u7z⟩ := cells8z ms7.hM)
                    go_roundw
                    case rel => exact ⟨acc ++ [⟨(n1 : Int), (n2 : Int), (n3 : Int), (n4 : Int) - 1, (n5 : Int)⟩], t5, ⟨a7, acc.length + 1, c7x⟩, by simp, by simp; omega, ms7.set 7 _ (nob_sl _ _ _), rwt7.set ms7.hM (by decide) 7 _, oc7.setB ms7.hM (by decide) 7 _, rwh7.set ms7.hM (by decide) 7 _, by rw [HG.out, HDH.out, List.length_append]; rfl⟩
                    case measure => simp [intOf]; omega
                · have HM2 : Hid (_ ∧ _ ∧ _ ∧ _ ∧ dLoop dHd nh [] s9 = (acc, (l, b))) := ⟨ms, rwt, oc, rwh, by rw [hL, show nh - acc.length = 0 by omega]; rfl⟩
                  clear hL ms rwt oc rwh
                  go_wp2_with fail
                  go_meet
                  exact ⟨acc, (l, b), ⟨hva, hvn, hvc⟩, HM2.out.1, HM2.out.2.1, HM2.out.2.2.1, HM2.out.2.2.2.1, HM2.out.2.2.2.2⟩
            case rest =>
              clear HIA
              obtain ⟨hs, sE, ⟨hva, hvn, hvc⟩, msE, rwE, ocE, rhE, hL⟩ := hcut
              simp only [] at msE rhE
              rw [hL] at HD2
              simp only [] at HD2
              have HDE : Hid (D = (⟨nm, ps, ⟨rk, rc⟩, (lon : Int), (ston : Int), cd, hs⟩, sE)) := by show _ = _; rw [HDC.out, HD2.out]
              obtain ⟨⟨c0, c1, c2, c3, c4, c5, c6, c7⟩, z0, z1, z2, z3, z4, z5, z6, z7⟩ := cells8z msE.hM
              obtain ⟨⟨y0, y1, y2, y3, y4, y5, y6, y7⟩, x0, x1, x2, x3, x4, x5, x6, x7⟩ := cells8z msE.hR
              have HMR : Hid (_ ∧ _ ∧ _ ∧ _) := ⟨msE, rwE, ocE, rhE⟩
              clear msE rwE ocE rhE hL HD2 HDC
              go_wp2_with fail
              have FF := fr_chain8 wc R (.string nm) (.slice pva pvn pvc) (.int .i64 rk) (.string rc) (.int .i64 (lon : Int)) (.int .i64 (ston : Int)) (.slice co cd.length ccap) (.slice hva hvn hvc)
              refine bodyPost_ret (results_31 _ R _ _ _ _ _ _ _ _ (set_chain8 HMR.out.1.hR) _ rfl) rfl ?_
              have F2 := HMR.out.1.fin z53 (by omega) FF
              have hFt : ∀ k, k = R → ∀ cur t fz, wc.heap[k]? = some (.cells cur t fz) → t ≠ 57 := fun k hk cur t fz hc => by subst hk; rw [HMR.out.1.hR] at hc; simp only [Option.some.injEq, Obj.cells.injEq] at hc; rw [← hc.2.1]; decide
              rw [HDE.out]
              exact ⟨⟨nm, ⟨pva, pvn, pvc⟩, ⟨rk, rc⟩, (lon : Int), (ston : Int), ⟨co, cd.length, ccap⟩, ⟨hva, hvn, hvc⟩⟩, rfl, ⟨rfl, rfl, rfl, rfl, HMR.out.2.1.fin HMR.out.1.hR (by decide) FF, HMR.out.2.2.1.but FF hFt, HMR.out.2.2.2.fin HMR.out.1.hR (by decide) FF⟩, F2.1, F2.2, ⟨by unfold fitS; simp only []; omega, by unfold fitS; simp only []; omega, fun t ht => by have := HFP.out t ht; unfold fitS; omega⟩⟩
end Go.Proofs.YthncdbobjeeeaaaGreatDoor

