/- Decode. -/
import Derived.Test.YthncdbobjeeeaaaGreatDoorRd6
namespace Go.Proofs.YthncdbobjeeeaaaGreatDoor
open Go.ChangeShapes Go.WideShapes Go.ChangeAt Go.RowKit

theorem results_8 (w : World) (r : Nat) (x0 x1 x2 x3 x4 y : Value) (h : w.heap[r]? = some (.cells #[x0, x1, x2, x3, x4] 28 (0, 0))) (tmps : Array Value) (h2 : tmps.getD 2 undef = .pointer (some ⟨r, 0, none⟩)) (h3 : tmps.getD 3 undef = y) :
    (results Tryz.f8 tmps).run Tryz.prog w = .ok (.tuple #[.agg #[x0, x1, x2, x3, x4], y]) w := by
  have hl : (loadVar 28 ⟨r, 0, none⟩).run Tryz.prog w = .ok (.agg #[x0, x1, x2, x3, x4]) w := run_loadVar_row (P := Tryz.prog) w r 28 28 #[x0, x1, x2, x3, x4] (0, 0) _ h Tryz.underlying28 rfl (by kernel_rfl)
  have h2' : tmps[2]?.getD undef = .pointer (some ⟨r, 0, none⟩) := by simpa using h2
  have h3' : tmps[3]?.getD undef = y := by simpa using h3
  simp [results, asAddr, h2', h3', hl]

def zKs : Ks := ⟨e0, e0, ⟨none, 0, 0⟩, ⟨none, 0, 0⟩, ⟨none, 0, 0⟩⟩
theorem zKs_at (w : World) : ClAt w zKs zCl := ⟨rfl, rfl, (OwnG.nil _ _).sl okCs, (OwnG.nil _ _).sl okFd, [], (OwnG.nil _ _).sl okMs, rfl, fun i s m h _ => by simp at h⟩

theorem rAll_eq (b : List Nat) : rAll b = (⟨(tkT 20 (rMark (b, 0))).1, (tkT 20 (tkT 20 (rMark (b, 0))).2).1, (rL 128 rCs (tkT 20 (tkT 20 (rMark (b, 0))).2).2).1, (rL 8 rFd (rL 128 rCs (tkT 20 (tkT 20 (rMark (b, 0))).2).2).2).1, (rL 12 rMt (rL 8 rFd (rL 128 rCs (tkT 20 (tkT 20 (rMark (b, 0))).2).2).2).2).1⟩, tkEnd ((rL 12 rMt (rL 8 rFd (rL 128 rCs (tkT 20 (tkT 20 (rMark (b, 0))).2).2).2).2).2)) := by simp only [rAll, rCl, pr]
theorem rAll_fit (b : List Nat) (hb : ∀ c ∈ b, c < 256) : FitK (rAll b).1 := by
  have hB : By (b, 0) := hb
  have hM : By (rMark (b, 0)) := by have := goodMark.by_ hB; rwa [pMark_eq] at this
  unfold rAll
  simp only []
  exact goodCl.fit _ hM

set_option maxRecDepth 100000 in
set_option maxHeartbeats 4000000 in
theorem decode_any (w : World) (T : Tb w) (R : Tr w) (v : Value) (l : List Nat) (h : Sl w v l) (hl : ∀ c ∈ l, c < 256) (hb : l.length ≤ 1099511627776) :
    Calls Tryz.prog 8 #[v] w fun x w' => ∃ ks : Ks, x = .returned (.tuple #[ksV ks, .int .i64 (dcE l : Int)]) ∧ ClAt w' ks (dcC l) ∧ Fr no w w' := by
  have f0 : Fr no w (w.alloc (.cells #[.string ⟨#[]⟩, .string ⟨#[]⟩, .slice none 0 0, .slice none 0 0, .slice none 0 0] 28)) := (Fr.refl no w).alloc _ _
  have hb0 : (w.alloc (.cells #[.string ⟨#[]⟩, .string ⟨#[]⟩, .slice none 0 0, .slice none 0 0, .slice none 0 0] 28)).heap[w.heap.size]? = some (.cells #[.string ⟨#[]⟩, .string ⟨#[]⟩, .slice none 0 0, .slice none 0 0, .slice none 0 0] 28 (0, 0)) := heap_alloc_new w _
  have hsz : (w.alloc (.cells #[.string ⟨#[]⟩, .string ⟨#[]⟩, .slice none 0 0, .slice none 0 0, .slice none 0 0] 28)).heap.size = w.heap.size + 1 := size_alloc _ _
  have h' := h.kept f0 (fun _ _ _ f => f)
  obtain ⟨va, vc, ev, _⟩ := h.shape
  subst ev
  generalize hW : w.alloc (.cells #[.string ⟨#[]⟩, .string ⟨#[]⟩, .slice none 0 0, .slice none 0 0, .slice none 0 0] 28) = W at *
  by_cases hbig : 20000 < l.length
  · have HE : Hid (dcE l = 32) := by show _ = _; unfold dcE; rw [if_pos hbig]
    have HC : Hid (dcC l = zCl) := by show _ = _; unfold dcC; rw [HE.out, if_neg (by decide)]
    obtain ⟨⟨b0, b1, b2, b3, b4⟩, bz0, bz1, bz2, bz3, bz4⟩ := cells5z hb0
    have hcmp : decide ((20000 : Int) < (l.length : Int)) = true := by simp; omega
    go_enter Tryz.func8, Tryz.ntmps8
    go_wp2_with fail
    refine bodyPost_ret (results_8 _ w.heap.size _ _ _ _ _ (.int .i64 32) (set_chain5 hb0) _ rfl rfl) rfl ?_
    have FF := fr_chain5 W w.heap.size (.string ⟨#[]⟩) (.string ⟨#[]⟩) (.slice none 0 0) (.slice none 0 0) (.slice none 0 0)
    rw [HE.out, HC.out]
    exact ⟨zKs, rfl, zKs_at _, f0.trans FF (fun _ _ f => f.elim) (fun i hi e => by omega)⟩
  have hcmp : decide ((20000 : Int) < (l.length : Int)) = false := by simp; omega
  have HE : Hid (dcE l = if (rAll l).2.2 = 0 then chk (rAll l).1 else (rAll l).2.2) := by show _ = _; unfold dcE; rw [if_neg hbig]
  have HCl : Hid (dcC l = if dcE l = 0 then (rAll l).1 else zCl) := rfl
  have HA : Hid (rAll l = (⟨(tkT 20 (rMark (l, 0))).1, (tkT 20 (tkT 20 (rMark (l, 0))).2).1, (rL 128 rCs (tkT 20 (tkT 20 (rMark (l, 0))).2).2).1, (rL 8 rFd (rL 128 rCs (tkT 20 (tkT 20 (rMark (l, 0))).2).2).2).1, (rL 12 rMt (rL 8 rFd (rL 128 rCs (tkT 20 (tkT 20 (rMark (l, 0))).2).2).2).2).1⟩, tkEnd ((rL 12 rMt (rL 8 rFd (rL 128 rCs (tkT 20 (tkT 20 (rMark (l, 0))).2).2).2).2).2))) := rAll_eq l
  have HFit : Hid (FitK (rAll l).1) := rAll_fit l hl
  generalize rAll l = ra at *
  clear hbig
  go_enter Tryz.func8, Tryz.ntmps8
  go_wp2_with fail
  refine (rOpen_any W _ l h' hl hb).mono ?_
  rintro x w1 ⟨p, q, rfl, hp, hq, r1, f1⟩
  have fw1 : Fr no w w1 := f0.new f1 (fun _ _ f => f)
  have HT : Hid (Tb w1 ∧ Tr w1) := ⟨T.kept fw1, R.kept fw1⟩
  have hb1 := f1.heap hb0 (fun f => f)
  have HB0 : Hid (∀ wx, Fr (PQ p q) w1 wx → wx.heap[w.heap.size]? = some (.cells #[.string ⟨#[]⟩, .string ⟨#[]⟩, .slice none 0 0, .slice none 0 0, .slice none 0 0] 28 (0, 0))) := fun wx fx => fx.heap hb1 (fun e => e.elim (fun e => by omega) (fun e => by omega))
  have HW : Hid (Fr no w w1) := fw1
  have HR1 : Hid (RT w1 p q (l, 0)) := r1
  clear fw1 hb1 hb0 h' f1 T R h f0
  go_wp2_with fail
  refine (readMark_any w1 p q (l, 0) r1).mono ?_
  rintro x w2 ⟨rfl, r2, f2⟩
  generalize rMark (l, 0) = t2 at *
  clear r1
  go_wp2_with fail
  refine (rName_any w2 p q t2 r2).mono ?_
  rintro x w3 ⟨rfl, r3, g3⟩
  have f3 := f2.trans g3 (fun _ _ e => e) (U := PQ p q) (fun _ _ e => e)
  clear f2 g3
  generalize tkT 20 t2 = t3 at *
  obtain ⟨nm, t3⟩ := t3
  simp only [] at r3 HA ⊢
  go_wp2_with fail
  refine (rName_any w3 p q t3 r3).mono ?_
  rintro x w4 ⟨rfl, r4, g4⟩
  have f4 := f3.trans g4 (fun _ _ e => e) (U := PQ p q) (fun _ _ e => e)
  clear f3 g4
  generalize tkT 20 t3 = t4 at *
  obtain ⟨su, t4⟩ := t4
  simp only [] at r4 HA ⊢
  go_wp2_with fail
  refine (readCs_list w4 p q t4 r4 128 (by omega) rCs (fun w1 s1 h1 _ => readConst_any w1 p q s1 h1)).mono ?_
  rintro x w5 ⟨v5, rfl, o5, r5, g5⟩
  have f5 := f4.trans g5 (fun _ _ e => e) (U := PQ p q) (fun _ _ e => e)
  clear f4 g5
  generalize rL 128 rCs t4 = t5 at *
  obtain ⟨pl, t5⟩ := t5
  simp only [] at r5 o5 HA ⊢
  obtain ⟨pa, pc, e5⟩ := o5.form
  subst e5
  go_wp2_with fail
  refine (readFd_list w5 p q t5 r5 8 (by omega) rFd (fun w1 s1 h1 _ => readField_any w1 p q s1 h1)).mono ?_
  rintro x w6 ⟨v6, rfl, q6, r6, g6⟩
  have o6 := o5.beside r5 (by decide) (by decide) g6
  have f6 := f5.trans g6 (fun _ _ e => e) (U := PQ p q) (fun _ _ e => e)
  clear f5 g6 o5
  generalize rL 8 rFd t5 = t6 at *
  obtain ⟨fl, t6⟩ := t6
  simp only [] at r6 q6 HA ⊢
  obtain ⟨fa, fc, e6⟩ := q6.form
  subst e6
  have M := readMs_list w6 p q t6 r6 12 (by omega) rMt (fun w1 s1 h1 g1 => readMethod_any w1 (HT.out.1.beside HR1.out (f6.trans g1 (fun _ _ e => e) (fun _ _ e => e))) p q s1 h1)
  go_wp2_with fail
  refine M.mono ?_
  rintro x w7 ⟨v7, rfl, ⟨ls, m7, a7⟩, r7, g7⟩
  have o7 := o6.beside r6 (by decide) (by decide) g7
  have q7 := q6.beside r6 (by decide) (by decide) g7
  have f7 := f6.trans g7 (fun _ _ e => e) (U := PQ p q) (fun _ _ e => e)
  clear f6 g7 o6 q6 M r6 r5 r4 r3 r2
  generalize rL 12 rMt t6 = t7 at *
  obtain ⟨ml, t7⟩ := t7
  simp only [] at r7 m7 a7 HA ⊢
  obtain ⟨ma, mc, e7⟩ := m7.form
  subst e7
  have HO : Hid (∀ wx, Fr (fun k => PQ p q k ∨ k = w.heap.size) w7 wx → ClAt wx ⟨nm, su, ⟨pa, pl.length, pc⟩, ⟨fa, fl.length, fc⟩, ⟨ma, ls.length, mc⟩⟩ ⟨nm, su, pl, fl, ml⟩) := by
    intro wx fx
    have hS : ∀ k, (PQ p q k ∨ k = w.heap.size) → ∀ cur t fz, w7.heap[k]? = some (.cells cur t fz) → t = 74 ∨ t = 176 ∨ t = 28 := by
      rintro k (hk | rfl) cur t fz e
      · rcases pq_tag r7 k hk cur t fz e with e | e
        · exact .inl e
        · exact .inr (.inl e)
      · rw [HB0.out w7 f7] at e
        simp only [Option.some.injEq, Obj.cells.injEq] at e
        exact .inr (.inr e.2.1.symm)
    refine ⟨rfl, rfl, (o7.but fx (fun k hk cur t fz e => ?_)).sl okCs, (q7.but fx (fun k hk cur t fz e => ?_)).sl okFd, ls, (m7.but fx (fun k hk cur t fz e => ?_)).sl okMs, (a7.but fx (fun k hk cur t fz e => ?_)).at⟩
    all_goals rcases hS k hk cur t fz e with rfl | rfl | rfl <;> decide
  have fa7 : Fr no w7 (w7.alloc (.cells #[.string ⟨#[]⟩, .string ⟨#[]⟩, .slice none 0 0, .slice none 0 0, .slice none 0 0] 28)) := (Fr.refl no w7).alloc _ _
  have hA : (w7.alloc (.cells #[.string ⟨#[]⟩, .string ⟨#[]⟩, .slice none 0 0, .slice none 0 0, .slice none 0 0] 28)).heap[w7.heap.size]? = some (.cells #[.string ⟨#[]⟩, .string ⟨#[]⟩, .slice none 0 0, .slice none 0 0, .slice none 0 0] 28 (0, 0)) := heap_alloc_new w7 _
  have hlt7 := r7.lt
  have hsz7 := f7.size
  have hsz1 := HW.out.size
  have hA8 := set_chain5 hA (x0 := .string nm) (x1 := .string su) (x2 := .slice pa pl.length pc) (x3 := .slice fa fl.length fc) (x4 := .slice ma ls.length mc)
  have FA := fr_chain5 (w7.alloc (.cells #[.string ⟨#[]⟩, .string ⟨#[]⟩, .slice none 0 0, .slice none 0 0, .slice none 0 0] 28)) w7.heap.size (.string nm) (.string su) (.slice pa pl.length pc) (.slice fa fl.length fc) (.slice ma ls.length mc)
  have g8 : Fr no w7 _ := fa7.trans FA (fun _ _ f => f.elim) (fun i hi e => by omega)
  have r8 : RT _ p q t7 := r7.new g8
  have f8 := f7.trans g8 (fun _ _ e => e) (U := PQ p q) (fun _ _ f => f.elim)
  obtain ⟨⟨b0, b1, b2, b3, b4⟩, bz0, bz1, bz2, bz3, bz4⟩ := cells5z hA
  have hne7 : ¬ w7.heap.size = w.heap.size := by
    have := (HB0.out w7 f7)
    intro e
    rw [← e] at this
    simp at this
  clear o7 q7 m7 a7 FA r7 hA fa7
  generalize hW7 : w7.alloc (.cells #[.string ⟨#[]⟩, .string ⟨#[]⟩, .slice none 0 0, .slice none 0 0, .slice none 0 0] 28) = W7 at *
  go_wp2_with fail
  clear hW7 b0 b1 b2 b3 b4 bz0 bz1 bz2 bz3 bz4
  generalize (((((W7.setCell ⟨w7.heap.size, 0, none⟩ (.string nm)).setCell ⟨w7.heap.size, 1, none⟩ (.string su)).setCell ⟨w7.heap.size, 2, none⟩ (.slice pa pl.length pc)).setCell ⟨w7.heap.size, 3, none⟩ (.slice fa fl.length fc)).setCell ⟨w7.heap.size, 4, none⟩ (.slice ma ls.length mc)) = w8 at *
  refine (rEnd_any w8 p q t7 r8).mono ?_
  rintro x w9 ⟨rfl, r9, g9⟩
  have HB5 : Hid (∀ wx, Fr (PQ p q) w8 wx → wx.heap[w7.heap.size]? = some (.cells #[.string nm, .string su, .slice pa pl.length pc, .slice fa fl.length fc, .slice ma ls.length mc] 28 (0, 0))) := fun wx fx => fx.heap hA8 (fun e => e.elim (fun e => by omega) (fun e => by omega))
  have f9 := f8.trans g9 (fun _ _ e => e) (U := PQ p q) (fun _ _ e => e)
  have g79 : Fr (PQ p q) w7 w9 := g8.trans g9 (fun _ _ f => f.elim) (fun _ _ e => e)
  have HG : Hid (Fr (PQ p q) w7 w9 ∧ Fr (PQ p q) w8 w9) := ⟨g79, g9⟩
  clear r8 f8 hA8 g8 g9 g79 f7
  have HE9 : Hid (ra.2.2 = (tkEnd t7).2) := by show _ = _; rw [HA.out]
  have HC9 : Hid (ra.1 = ⟨nm, su, pl, fl, ml⟩) := by show _ = _; rw [HA.out]
  generalize tkEnd t7 = t9 at *
  obtain ⟨l9, e9⟩ := t9
  simp only [] at HE9
  obtain ⟨c0, c1, z1⟩ := RS.cells r9
  simp only [] at c0 c1
  have hB0 := HB0.out w9 f9
  have hB5 := HB5.out w9 HG.out.2
  obtain ⟨⟨b0, b1, b2, b3, b4⟩, bz0, bz1, bz2, bz3, bz4⟩ := cells5z hB0
  obtain ⟨⟨d0, d1, d2, d3, d4⟩, dz0, dz1, dz2, dz3, dz4⟩ := cells5z hB5
  by_cases he : e9 = 0
  · subst he
    have C := check_any w9 (HT.out.1.beside HR1.out f9) (HT.out.2.beside HR1.out f9) ⟨nm, su, ⟨pa, pl.length, pc⟩, ⟨fa, fl.length, fc⟩, ⟨ma, ls.length, mc⟩⟩ ⟨nm, su, pl, fl, ml⟩ (HO.out w9 (HG.out.1.mono (fun _ _ e => .inl e))) (by have := HFit.out; rw [HC9.out] at this; exact this.1)
    have HE' : Hid (dcE l = chk ⟨nm, su, pl, fl, ml⟩) := by show _ = _; rw [HE.out, HE9.out, if_pos rfl, HC9.out]
    have HCl' : Hid (dcC l = if chk ⟨nm, su, pl, fl, ml⟩ = 0 then ⟨nm, su, pl, fl, ml⟩ else zCl) := by show _ = _; rw [HCl.out, HE'.out, HC9.out]
    unfold ksV at C
    simp only [] at C
    generalize chk ⟨nm, su, pl, fl, ml⟩ = ck at *
    go_wp2_with fail
    refine C.mono ?_
    rintro x w10 ⟨rfl, f10⟩
    have r10 : RT w10 p q (l9, 0) := r9.new f10
    obtain ⟨c0', c1', z1'⟩ := RS.cells r10
    have S11 := RS.set r10 ck
    have f1p : Fr (PQ p q) w10 (w10.setCell ⟨p, 1, none⟩ (.int .i64 (ck : Int))) := S11.2.mono (fun _ _ e => .inl e)
    have fA : Fr (PQ p q) w9 (w10.setCell ⟨p, 1, none⟩ (.int .i64 (ck : Int))) := f10.trans f1p (fun _ _ f => f.elim) (fun _ _ e => e)
    have hB0' := HB0.out _ (f9.trans fA (fun _ _ e => e) (fun _ _ e => e))
    have hB5' := HB5.out _ (HG.out.2.trans fA (fun _ _ e => e) (fun _ _ e => e))
    obtain ⟨k0, k1, kz⟩ := RS.cells S11.1
    clear b0 b1 b2 b3 b4 bz0 bz1 bz2 bz3 bz4 d0 d1 d2 d3 d4 dz0 dz1 dz2 dz3 dz4 c0 c1 z1 hB0 hB5
    obtain ⟨⟨b0, b1, b2, b3, b4⟩, bz0, bz1, bz2, bz3, bz4⟩ := cells5z hB0'
    obtain ⟨⟨d0, d1, d2, d3, d4⟩, dz0, dz1, dz2, dz3, dz4⟩ := cells5z hB5'
    generalize hW11 : w10.setCell ⟨p, 1, none⟩ (.int .i64 (ck : Int)) = W11 at *
    have HFA : Hid (Fr (PQ p q) w9 W11) := fA
    clear fA f1p S11 r10 f10 C
    by_cases hck : ck = 0
    · have HE2 : Hid (dcE l = 0) := by show _ = _; rw [HE'.out, hck]
      have HC2 : Hid (dcC l = ⟨nm, su, pl, fl, ml⟩) := by show _ = _; rw [HCl'.out, if_pos hck]
      have hck' : ((ck : Int) == 0) = true := by simp [hck]
      clear hck
      go_wp2_with fail
      have hZ : ((World.setCell (World.setCell (World.setCell (World.setCell (World.setCell W11 ⟨w.heap.size, 0, none⟩ (.string nm)) ⟨w.heap.size, 1, none⟩ (.string su)) ⟨w.heap.size, 2, none⟩ (.slice pa pl.length pc)) ⟨w.heap.size, 3, none⟩ (.slice fa fl.length fc)) ⟨w.heap.size, 4, none⟩ (.slice ma ls.length mc))).heap[w.heap.size]? = some (.cells #[.string nm, .string su, .slice pa pl.length pc, .slice fa fl.length fc, .slice ma ls.length mc] 28 (0, 0)) := set_chain5 hB0'
      refine bodyPost_ret (results_8 (World.setCell (World.setCell (World.setCell (World.setCell (World.setCell W11 ⟨w.heap.size, 0, none⟩ (.string nm)) ⟨w.heap.size, 1, none⟩ (.string su)) ⟨w.heap.size, 2, none⟩ (.slice pa pl.length pc)) ⟨w.heap.size, 3, none⟩ (.slice fa fl.length fc)) ⟨w.heap.size, 4, none⟩ (.slice ma ls.length mc)) w.heap.size _ _ _ _ _ (.int .i64 0) hZ _ rfl rfl) rfl ?_
      have FF := fr_chain5 W11 w.heap.size (.string nm) (.string su) (.slice pa pl.length pc) (.slice fa fl.length fc) (.slice ma ls.length mc)
      have f12 : Fr (fun k => PQ p q k ∨ k = w.heap.size) w9 _ := HFA.out.trans FF (fun _ _ e => .inl e) (fun _ _ e => .inr e)
      rw [HE2.out, HC2.out]
      refine ⟨⟨nm, su, ⟨pa, pl.length, pc⟩, ⟨fa, fl.length, fc⟩, ⟨ma, ls.length, mc⟩⟩, rfl, HO.out _ (HG.out.1.trans f12 (fun _ _ e => .inl e) (fun _ _ e => e)), ?_⟩
      exact HW.out.trans (f9.trans f12 (fun _ _ e => .inl e) (fun _ _ e => e)) (fun _ _ f => f.elim) (fun i hi e => by rcases e with (rfl | rfl) | rfl <;> omega)
    · have HE2 : Hid (dcE l = ck) := HE'
      have HC2 : Hid (dcC l = zCl) := by show _ = _; rw [HCl'.out, if_neg hck]
      have hck' : ((ck : Int) == 0) = false := beq_eq_false_iff_ne.2 (by omega)
      clear hck
      go_wp2_with fail
      go_region
      go_wp2_with fail
      have hZ : (World.drew (World.setCell (World.setCell (World.setCell (World.setCell (World.setCell W11 ⟨w.heap.size, 0, none⟩ (.string ⟨#[]⟩)) ⟨w.heap.size, 1, none⟩ (.string ⟨#[]⟩)) ⟨w.heap.size, 2, none⟩ (.slice none 0 0)) ⟨w.heap.size, 3, none⟩ (.slice none 0 0)) ⟨w.heap.size, 4, none⟩ (.slice none 0 0))).heap[w.heap.size]? = some (.cells #[.string ⟨#[]⟩, .string ⟨#[]⟩, .slice none 0 0, .slice none 0 0, .slice none 0 0] 28 (0, 0)) := set_chain5 hB0'
      have FF : Fr (fun k => k = w.heap.size) W11 (World.drew (World.setCell (World.setCell (World.setCell (World.setCell (World.setCell W11 ⟨w.heap.size, 0, none⟩ (.string ⟨#[]⟩)) ⟨w.heap.size, 1, none⟩ (.string ⟨#[]⟩)) ⟨w.heap.size, 2, none⟩ (.slice none 0 0)) ⟨w.heap.size, 3, none⟩ (.slice none 0 0)) ⟨w.heap.size, 4, none⟩ (.slice none 0 0))) := (fr_chain5 W11 w.heap.size (.string ⟨#[]⟩) (.string ⟨#[]⟩) (.slice none 0 0) (.slice none 0 0) (.slice none 0 0)).drew
      refine bodyPost_ret (results_8 (World.drew (World.setCell (World.setCell (World.setCell (World.setCell (World.setCell W11 ⟨w.heap.size, 0, none⟩ (.string ⟨#[]⟩)) ⟨w.heap.size, 1, none⟩ (.string ⟨#[]⟩)) ⟨w.heap.size, 2, none⟩ (.slice none 0 0)) ⟨w.heap.size, 3, none⟩ (.slice none 0 0)) ⟨w.heap.size, 4, none⟩ (.slice none 0 0))) w.heap.size _ _ _ _ _ (.int .i64 (ck : Int)) hZ _ rfl rfl) rfl ?_
      rw [HE2.out, HC2.out]
      exact ⟨zKs, rfl, zKs_at _, HW.out.trans ((f9.trans HFA.out (fun _ _ e => e) (U := PQ p q) (fun _ _ e => e)).trans FF (U := fun k => PQ p q k ∨ k = w.heap.size) (fun _ _ e => .inl e) (fun _ _ e => .inr e)) (fun _ _ f => f.elim) (fun i hi e => by rcases e with (rfl | rfl) | rfl <;> omega)⟩
  · have HE2 : Hid (dcE l = e9) := by show _ = _; rw [HE.out, HE9.out, if_neg he]
    have HC2 : Hid (dcC l = zCl) := by show _ = _; rw [HCl.out, HE2.out, if_neg he]
    have he' : ((e9 : Int) == 0) = false := beq_eq_false_iff_ne.2 (by omega)
    clear he
    go_wp2_with fail
    go_region
    go_wp2_with fail
    have hZ : (World.drew (World.setCell (World.setCell (World.setCell (World.setCell (World.setCell w9 ⟨w.heap.size, 0, none⟩ (.string ⟨#[]⟩)) ⟨w.heap.size, 1, none⟩ (.string ⟨#[]⟩)) ⟨w.heap.size, 2, none⟩ (.slice none 0 0)) ⟨w.heap.size, 3, none⟩ (.slice none 0 0)) ⟨w.heap.size, 4, none⟩ (.slice none 0 0))).heap[w.heap.size]? = some (.cells #[.string ⟨#[]⟩, .string ⟨#[]⟩, .slice none 0 0, .slice none 0 0, .slice none 0 0] 28 (0, 0)) := set_chain5 hB0
    have FF : Fr (fun k => k = w.heap.size) w9 (World.drew (World.setCell (World.setCell (World.setCell (World.setCell (World.setCell w9 ⟨w.heap.size, 0, none⟩ (.string ⟨#[]⟩)) ⟨w.heap.size, 1, none⟩ (.string ⟨#[]⟩)) ⟨w.heap.size, 2, none⟩ (.slice none 0 0)) ⟨w.heap.size, 3, none⟩ (.slice none 0 0)) ⟨w.heap.size, 4, none⟩ (.slice none 0 0))) := (fr_chain5 w9 w.heap.size (.string ⟨#[]⟩) (.string ⟨#[]⟩) (.slice none 0 0) (.slice none 0 0) (.slice none 0 0)).drew
    refine bodyPost_ret (results_8 (World.drew (World.setCell (World.setCell (World.setCell (World.setCell (World.setCell w9 ⟨w.heap.size, 0, none⟩ (.string ⟨#[]⟩)) ⟨w.heap.size, 1, none⟩ (.string ⟨#[]⟩)) ⟨w.heap.size, 2, none⟩ (.slice none 0 0)) ⟨w.heap.size, 3, none⟩ (.slice none 0 0)) ⟨w.heap.size, 4, none⟩ (.slice none 0 0))) w.heap.size _ _ _ _ _ (.int .i64 (e9 : Int)) hZ _ rfl rfl) rfl ?_
    rw [HE2.out, HC2.out]
    exact ⟨zKs, rfl, zKs_at _, HW.out.trans (f9.trans FF (U := fun k => PQ p q k ∨ k = w.heap.size) (fun _ _ e => .inl e) (fun _ _ e => .inr e)) (fun _ _ f => f.elim) (fun i hi e => by rcases e with (rfl | rfl) | rfl <;> omega)⟩
end Go.Proofs.YthncdbobjeeeaaaGreatDoor
