/- The class reader: a method, and the list of methods. -/
import Derived.Test.YthncdbobjeeeaaaGreatDoorGn
namespace Go.Proofs.YthncdbobjeeeaaaGreatDoor
open Go.ChangeShapes Go.WideShapes Go.ChangeAt Go.RowKit

theorem OwnG.but {α : Type} {K : El α} {S : Nat → Prop} {w w' : World} {v : Value} {l : List α} (h : OwnG K w v l) (hf : Fr S w w') (hS : ∀ k, S k → ∀ cur t fz, w.heap[k]? = some (.cells cur t fz) → t ≠ K.e) : OwnG K w' v l :=
  h.kept hf (fun k hk e => by obtain ⟨cur, ht⟩ := h.tag hk; exact hS k e _ _ _ ht rfl)
theorem OwnI.but {S : Nat → Prop} {w w' : World} {v : Value} {l : List (Int × Int)} (h : OwnI w v l) (hf : Fr S w w') (hS : ∀ k, S k → ∀ cur t fz, w.heap[k]? = some (.cells cur t fz) → t ≠ 57) : OwnI w' v l :=
  h.kept hf (fun k hk e => by obtain ⟨cur, ht⟩ := h.tag hk; exact hS k e _ _ _ ht rfl)

/-- A method whose rows are its own. -/
structure MtOwn (w : World) (s : Ms) (m : Mt) : Prop where
  name : s.name = m.name
  ret : s.ret = m.ret
  lo : s.lo = m.lo
  st : s.st = m.st
  p : OwnG elTy w (.slice s.p.a s.p.n s.p.c) m.params
  c : OwnI w (.slice s.c.a s.c.n s.c.c) m.code
  h : OwnG elHd w (.slice s.h.a s.h.n s.h.c) m.hands

theorem MtOwn.at {w : World} {s : Ms} {m : Mt} (h : MtOwn w s m) : MtAt w s m := ⟨h.name, h.ret, h.lo, h.st, h.p.sl okTy, h.c.sl, h.h.sl okHd⟩

theorem MtOwn.but {S : Nat → Prop} {w w' : World} {s : Ms} {m : Mt} (h : MtOwn w s m) (hf : Fr S w w') (hS : ∀ k, S k → ∀ cur t fz, w.heap[k]? = some (.cells cur t fz) → t ≠ 46 ∧ t ≠ 57 ∧ t ≠ 59) : MtOwn w' s m :=
  ⟨h.name, h.ret, h.lo, h.st, h.p.but hf (fun k hk cur t fz e => (hS k hk cur t fz e).1), h.c.but hf (fun k hk cur t fz e => (hS k hk cur t fz e).2.1), h.h.but hf (fun k hk cur t fz e => (hS k hk cur t fz e).2.2)⟩

theorem pq_tag {w : World} {p q : Nat} {s : List Nat × Nat} (hr : RT w p q s) : ∀ k, PQ p q k → ∀ cur t fz, w.heap[k]? = some (.cells cur t fz) → t = 74 ∨ t = 176 := by
  rintro k (rfl | rfl) cur t fz ht
  · rw [RS.blk hr] at ht
    simp only [Option.some.injEq, Obj.cells.injEq] at ht
    exact .inl ht.2.1.symm
  · obtain ⟨v, hv, _⟩ := RS.rd hr
    rw [hv] at ht
    simp only [Option.some.injEq, Obj.cells.injEq] at ht
    exact .inr ht.2.1.symm

def OwnAll (w : World) (ls : List Ms) (l : List Mt) : Prop := ls.length = l.length ∧ ∀ (i : Nat) (s : Ms) (m : Mt), ls[i]? = some s → l[i]? = some m → MtOwn w s m

theorem OwnAll.at {w : World} {ls : List Ms} {l : List Mt} (h : OwnAll w ls l) : AtAll w ls l := ⟨h.1, fun i s m h1 h2 => (h.2 i s m h1 h2).at⟩
theorem OwnAll.but {S : Nat → Prop} {w w' : World} {ls : List Ms} {l : List Mt} (h : OwnAll w ls l) (hf : Fr S w w') (hS : ∀ k, S k → ∀ cur t fz, w.heap[k]? = some (.cells cur t fz) → t ≠ 46 ∧ t ≠ 57 ∧ t ≠ 59) : OwnAll w' ls l :=
  ⟨h.1, fun i s m h1 h2 => (h.2 i s m h1 h2).but hf hS⟩
theorem OwnAll.snoc {w : World} {ls : List Ms} {l : List Mt} {y : Ms} {x : Mt} (h : OwnAll w ls l) (hy : MtOwn w y x) : OwnAll w (ls ++ [y]) (l ++ [x]) := by
  refine ⟨by simp [h.1], fun i s m h1 h2 => ?_⟩
  rcases Nat.lt_or_ge i ls.length with hi | hi
  · rw [List.getElem?_append_left hi] at h1
    rw [List.getElem?_append_left (by rw [← h.1]; exact hi)] at h2
    exact h.2 i s m h1 h2
  · rw [List.getElem?_append_right hi] at h1
    rw [List.getElem?_append_right (by rw [← h.1]; exact hi), ← h.1] at h2
    rcases Nat.eq_zero_or_pos (i - ls.length) with e | e
    · rw [e] at h1 h2
      simp at h1 h2
      subst h1 h2
      exact hy
    · rw [List.getElem?_eq_none (by simp; omega)] at h1
      simp at h1
theorem OwnAll.beside {w w' : World} {p q : Nat} {s : List Nat × Nat} {ls : List Ms} {l : List Mt} (h : OwnAll w ls l) (hr : RT w p q s) (hf : Fr (PQ p q) w w') : OwnAll w' ls l :=
  h.but hf (fun k hk cur t fz e => by rcases pq_tag hr k hk cur t fz e with rfl | rfl <;> decide)

theorem rMt_eq (s : St) : rMt s = (⟨(tkT 20 s).1, (rL 6 rTy (tkT 20 s).2).1, (rTy (rL 6 rTy (tkT 20 s).2).2).1, ((tkN 32 (rTy (rL 6 rTy (tkT 20 s).2).2).2).1 : Int), ((tkN 64 (tkN 32 (rTy (rL 6 rTy (tkT 20 s).2).2).2).2).1 : Int), (rCode (tkN 64 (tkN 32 (rTy (rL 6 rTy (tkT 20 s).2).2).2).2).2).1, (rL 16 rHd (rCode (tkN 64 (tkN 32 (rTy (rL 6 rTy (tkT 20 s).2).2).2).2).2).2).1⟩, (rL 16 rHd (rCode (tkN 64 (tkN 32 (rTy (rL 6 rTy (tkT 20 s).2).2).2).2).2).2).2) := by simp only [rMt, pr]

set_option maxRecDepth 100000 in
set_option maxHeartbeats 4000000 in
theorem readMethod_any (w : World) (T : Tb w) (p q : Nat) (s : St) (h : RT w p q s) :
    Calls Tryz.prog 24 #[.pointer (some ⟨p, 0, none⟩)] w fun x w' => ∃ y : Ms, x = .returned (.agg #[.string y.name, .slice y.p.a y.p.n y.p.c, .int .i64 y.ret.k, .string y.ret.c, .int .i64 y.lo, .int .i64 y.st, .slice y.c.a y.c.n y.c.c, .slice y.h.a y.h.n y.h.c]) ∧ MtOwn w' y (rMt s).1 ∧ RT w' p q (rMt s).2 ∧ Fr (PQ p q) w w' := by
  have f0 : Fr no w (w.alloc (.cells #[.string e0, .slice none 0 0, .int .i64 0, .string e0, .int .i64 0, .int .i64 0, .slice none 0 0, .slice none 0 0] 53)) := (Fr.refl no w).alloc _ _
  have hb0 := heap_alloc_new w (.cells #[.string e0, .slice none 0 0, .int .i64 0, .string e0, .int .i64 0, .int .i64 0, .slice none 0 0, .slice none 0 0] 53)
  have hlt := h.lt
  have HF : Hid (Fr no w (w.alloc (.cells #[.string e0, .slice none 0 0, .int .i64 0, .string e0, .int .i64 0, .int .i64 0, .slice none 0 0, .slice none 0 0] 53))) := f0
  have hsz : (w.alloc (.cells #[.string e0, .slice none 0 0, .int .i64 0, .string e0, .int .i64 0, .int .i64 0, .slice none 0 0, .slice none 0 0] 53)).heap.size = w.heap.size + 1 := size_alloc _ _
  have ra : RT _ p q s := h.new f0
  have HT : Hid (Tb (w.alloc (.cells #[.string e0, .slice none 0 0, .int .i64 0, .string e0, .int .i64 0, .int .i64 0, .slice none 0 0, .slice none 0 0] 53))) := T.kept f0
  have HRa : Hid (RT (w.alloc (.cells #[.string e0, .slice none 0 0, .int .i64 0, .string e0, .int .i64 0, .int .i64 0, .slice none 0 0, .slice none 0 0] 53)) p q s) := ra
  have HB : Hid (∀ w1, Fr (PQ p q) (w.alloc (.cells #[.string e0, .slice none 0 0, .int .i64 0, .string e0, .int .i64 0, .int .i64 0, .slice none 0 0, .slice none 0 0] 53)) w1 → w1.heap[w.heap.size]? = some (.cells #[.string e0, .slice none 0 0, .int .i64 0, .string e0, .int .i64 0, .int .i64 0, .slice none 0 0, .slice none 0 0] 53 (0, 0))) := fun w1 f1 => f1.heap hb0 (fun e => e.elim (fun e => by omega) (fun e => by omega))
  have HR : Hid (rMt s = (⟨(tkT 20 s).1, (rL 6 rTy (tkT 20 s).2).1, (rTy (rL 6 rTy (tkT 20 s).2).2).1, ((tkN 32 (rTy (rL 6 rTy (tkT 20 s).2).2).2).1 : Int), ((tkN 64 (tkN 32 (rTy (rL 6 rTy (tkT 20 s).2).2).2).2).1 : Int), (rCode (tkN 64 (tkN 32 (rTy (rL 6 rTy (tkT 20 s).2).2).2).2).2).1, (rL 16 rHd (rCode (tkN 64 (tkN 32 (rTy (rL 6 rTy (tkT 20 s).2).2).2).2).2).2).1⟩, (rL 16 rHd (rCode (tkN 64 (tkN 32 (rTy (rL 6 rTy (tkT 20 s).2).2).2).2).2).2).2)) := rMt_eq s
  generalize rMt s = r at *
  clear h f0 hb0 T
  go_enter Tryz.func24, Tryz.ntmps24
  go_wp2_with fail
  refine (rName_any _ p q s ra).mono ?_
  rintro x w1 ⟨rfl, r1, f1⟩
  generalize tkT 20 s = t1 at *
  obtain ⟨nm, t1⟩ := t1
  simp only [] at r1 HR ⊢
  go_wp2_with fail
  refine (readTy_list _ p q t1 r1 6 (by omega) rTy (fun w1 s1 h1 _ => readType_any w1 p q s1 h1)).mono ?_
  rintro x w2 ⟨v2, rfl, o2, r2, g2⟩
  have f2 := f1.trans g2 (fun _ _ e => e) (U := PQ p q) (fun _ _ e => e)
  clear f1 g2
  generalize rL 6 rTy t1 = t2 at *
  obtain ⟨ps, t2⟩ := t2
  simp only [] at r2 o2 HR ⊢
  obtain ⟨pa, pc, e2⟩ := o2.form
  subst e2
  go_wp2_with fail
  refine (readType_any _ p q t2 r2).mono ?_
  rintro x w3 ⟨rfl, r3, g3⟩
  have o3 := o2.beside r2 (by decide) (by decide) g3
  have f3 := f2.trans g3 (fun _ _ e => e) (U := PQ p q) (fun _ _ e => e)
  clear f2 g3 o2
  generalize rTy t2 = t3 at *
  obtain ⟨⟨k, c⟩, t3⟩ := t3
  simp only [] at r3 HR ⊢
  go_wp2_with fail
  refine (rCount_any _ p q t3 r3 32 (by omega) (by omega)).mono ?_
  rintro x w4 ⟨rfl, r4, g4⟩
  have o4 := o3.beside r3 (by decide) (by decide) g4
  have f4 := f3.trans g4 (fun _ _ e => e) (U := PQ p q) (fun _ _ e => e)
  clear f3 g4 o3
  generalize tkN 32 t3 = t4 at *
  obtain ⟨n4, t4⟩ := t4
  simp only [] at r4 HR ⊢
  go_wp2_with fail
  refine (rCount_any _ p q t4 r4 64 (by omega) (by omega)).mono ?_
  rintro x w5 ⟨rfl, r5, g5⟩
  have o5 := o4.beside r4 (by decide) (by decide) g5
  have f5 := f4.trans g5 (fun _ _ e => e) (U := PQ p q) (fun _ _ e => e)
  clear f4 g5 o4
  generalize tkN 64 t4 = t5 at *
  obtain ⟨n5, t5⟩ := t5
  simp only [] at r5 HR ⊢
  have T5 := HT.out.beside HRa.out f5
  go_wp2_with fail
  refine (readCode_any _ T5 p q t5 r5).mono ?_
  rintro x w6 ⟨v6, rfl, i6, r6, g6⟩
  have o6 := o5.beside r5 (by decide) (by decide) g6
  have f6 := f5.trans g6 (fun _ _ e => e) (U := PQ p q) (fun _ _ e => e)
  clear f5 g6 o5 T5
  generalize rCode t5 = t6 at *
  obtain ⟨cd, t6⟩ := t6
  simp only [] at r6 i6 HR ⊢
  obtain ⟨ca, cc, e6⟩ := i6.form
  subst e6
  go_wp2_with fail
  refine (readHd_list _ p q t6 r6 16 (by omega) rHd (fun w1 s1 h1 _ => readHandler_any w1 p q s1 h1)).mono ?_
  rintro x w7 ⟨v7, rfl, h7, r7, g7⟩
  have o7 := o6.beside r6 (by decide) (by decide) g7
  have i7 := i6.beside r6 g7
  have f7 := f6.trans g7 (fun _ _ e => e) (U := PQ p q) (fun _ _ e => e)
  clear f6 g7 o6 i6
  generalize rL 16 rHd t6 = t7 at *
  obtain ⟨hs, t7⟩ := t7
  simp only [] at r7 h7 HR ⊢
  obtain ⟨ha, hc, e7⟩ := h7.form
  subst e7
  have hB := HB.out w7 f7
  obtain ⟨⟨b0, b1, b2, b3, b4, b5, b6, b7⟩, bz0, bz1, bz2, bz3, bz4, bz5, bz6, bz7⟩ := cells8z hB
  go_wp2_with fail
  refine bodyPost_ret (results_24 _ w.heap.size _ _ _ _ _ _ _ _ (set_chain8 hB) _ rfl) rfl ?_
  have FF := fr_chain8 w7 w.heap.size (.string nm) (.slice pa ps.length pc) (.int .i64 k) (.string c) (.int .i64 (n4 : Int)) (.int .i64 (n5 : Int)) (.slice ca cd.length cc) (.slice ha hs.length hc)
  have hS : ∀ k, k = w.heap.size → ∀ cur t fz, w7.heap[k]? = some (.cells cur t fz) → t ≠ 46 ∧ t ≠ 57 ∧ t ≠ 59 := by
    rintro k rfl cur t fz e
    rw [hB] at e
    simp only [Option.some.injEq, Obj.cells.injEq] at e
    rw [← e.2.1]
    decide
  rw [HR.out]
  refine ⟨⟨nm, ⟨pa, ps.length, pc⟩, ⟨k, c⟩, (n4 : Int), (n5 : Int), ⟨ca, cd.length, cc⟩, ⟨ha, hs.length, hc⟩⟩, rfl, MtOwn.but (w := w7) ⟨rfl, rfl, rfl, rfl, o7, i7, h7⟩ FF hS, r7.away (fun k hk => ?_) FF, ?_⟩
  · subst hk
    have hl := r7.lt
    exact ⟨by omega, by omega, nob_block hB (nobs8 (nob_str _) (nob_sl _ _ _) (nob_int _) (nob_str _) (nob_int _) (nob_int _) (nob_sl _ _ _) (nob_sl _ _ _))⟩
  · exact (HF.out.trans f7 (fun _ _ f => f.elim) (fun _ _ e => e)).trans FF (fun _ _ e => e) (fun i hi e => by omega)

def RListMsAt (w0 : World) (p q : Nat) (most : Nat) (f : St → Mt × St) (s : St) (a : Act) (w : World) : Prop :=
  ∃ (k : Nat) (acc : List Mt) (s' : St) (u8 : Value) (u3 u4 u5 u6 u9 u10 u11 u12 u13 u14 u15 u16 u17 u18 u19 u20 u21 u22 u23 u24 u25 u26 u27 u28 u29 u30 u31 : Value),
    a = { tmps := #[.pointer (some ⟨p, 0, none⟩), .int .i64 (most : Int), .func (.func 24) #[] #[], u3, u4, u5, u6, .int .i64 (k : Int), u8, u9, u10, u11, u12, u13, u14, u15, u16, u17, u18, u19, u20, u21, u22, u23, u24, u25, u26, u27, u28, u29, u30, u31], defers := [] } ∧ k ≤ most ∧ acc.length ≤ k ∧ (∃ ls, OwnG elMs w u8 ls ∧ OwnAll w ls acc) ∧ (∀ i, u8.ownBlock = some i → w0.heap.size ≤ i) ∧
    RT w p q s' ∧ Fr (PQ p q) w0 w ∧ rLoop f (k - acc.length) acc s' = rL most f s

set_option maxRecDepth 100000 in
set_option maxHeartbeats 4000000 in
theorem readMs_list (w : World) (p q : Nat) (s : St) (h : RT w p q s) (most : Nat) (hmost : most ≤ 1000) (f : St → Mt × St)
    (READ : ∀ w1 s1, RT w1 p q s1 → Fr (PQ p q) w w1 → Calls Tryz.prog 24 #[.pointer (some ⟨p, 0, none⟩)] w1 fun x w' => ∃ y : Ms, x = .returned (.agg #[.string y.name, .slice y.p.a y.p.n y.p.c, .int .i64 y.ret.k, .string y.ret.c, .int .i64 y.lo, .int .i64 y.st, .slice y.c.a y.c.n y.c.c, .slice y.h.a y.h.n y.h.c]) ∧ MtOwn w' y (f s1).1 ∧ RT w' p q (f s1).2 ∧ Fr (PQ p q) w1 w') :
    Calls Tryz.prog 23 #[.pointer (some ⟨p, 0, none⟩), .int .i64 (most : Int), .func (.func 24) #[] #[]] w fun x w' => ∃ v, x = .returned v ∧ (∃ ls, OwnG elMs w' v ls ∧ OwnAll w' ls (rL most f s).1) ∧ RT w' p q (rL most f s).2 ∧ Fr (PQ p q) w w' := by
  have C := rCount_any w p q s h (most : Int) (by omega) (by omega)
  have hle := tkN_le most s
  have HRL : Hid (rL most f s = rLoop f (tkN (most : Int) s).1 [] (tkN (most : Int) s).2) := rfl
  have HREAD : Hid (∀ w1 s1, RT w1 p q s1 → Fr (PQ p q) w w1 → Calls Tryz.prog 24 #[.pointer (some ⟨p, 0, none⟩)] w1 fun x w' => ∃ y : Ms, x = .returned (.agg #[.string y.name, .slice y.p.a y.p.n y.p.c, .int .i64 y.ret.k, .string y.ret.c, .int .i64 y.lo, .int .i64 y.st, .slice y.c.a y.c.n y.c.c, .slice y.h.a y.h.n y.h.c]) ∧ MtOwn w' y (f s1).1 ∧ RT w' p q (f s1).2 ∧ Fr (PQ p q) w1 w') := READ
  have hlt0 := h.lt
  clear READ
  go_enter Tryz.func23, Tryz.ntmps23
  go_wp2_with fail
  refine wp_label_one 0 (RListMsAt w p q most f s) (fun a' _ => (intOf (a'.tmps.getD 7 undef)).toNat - slen (a'.tmps.getD 8 undef)) rfl ?_ ?_
  · intro K h0 hr hn'
    generalize tkN (most : Int) s = t at *
    obtain ⟨k, t⟩ := t
    simp only [] at C hle HRL
    go_wp2_with fail
    refine C.mono ?_
    rintro x w1 ⟨rfl, r1, f1⟩
    have MK := run_makeG okMs w1 k (by omega)
    have MK' : (Instr.makeSlice 26 (.int .i64 0) (.int .i64 (k : Int))).run Tryz.prog w1 = .ok (.slice (some ⟨w1.heap.size, 0, none⟩) 0 k) (w1.alloc (.cells (madeCells elMs.z.cells (k * 8)) 53)) := MK
    have OM : OwnG elMs (w1.alloc (.cells (madeCells elMs.z.cells (k * 8)) 53)) (.slice (some ⟨w1.heap.size, 0, none⟩) 0 k) [] := ownG_made okMs w1 k (by unfold maxLen; omega)
    have fa : Fr no w1 (w1.alloc (.cells (madeCells elMs.z.cells (k * 8)) 53)) := (Fr.refl no w1).alloc _ _
    clear MK
    generalize w1.alloc (.cells (madeCells elMs.z.cells (k * 8)) 53) = W at MK' OM fa
    go_wp2_with fail
    go_step3
    rename_i hk
    refine hk _ _ (h0 _ _ ⟨k, [], t, .slice (some ⟨w1.heap.size, 0, none⟩) 0 k, _, _, _, _, _, _, _, _, _, _, _, _, _, _, _, _, _, _, _, _, _, _, _, _, _, _, _, rfl, hle, Nat.zero_le _, ⟨[], OM, rfl, fun i s m h => by simp at h⟩, ?_, r1.new fa, f1.trans fa (fun _ _ e => e) (fun _ _ f => f.elim), ?_⟩)
    · intro i hi
      simp only [Value.ownBlock, Option.some.injEq] at hi
      subst hi
      exact f1.size
    · rw [HRL.out]; rfl
  · clear C hle HRL
    rintro a' w' ⟨k, acc, s', u8, u3, u4, u5, u6, u9, u10, u11, u12, u13, u14, u15, u16, u17, u18, u19, u20, u21, u22, u23, u24, u25, u26, u27, u28, u29, u30, u31, rfl, hk, hacc, ⟨ls, ho, hal⟩, ho0, hr1, hf1, hloop⟩ K hj hr hn'
    have HL : Hid (rLoop f (k - acc.length) acc s' = rL most f s) := hloop
    clear hloop
    obtain ⟨o, cap, eo⟩ := ho.form
    rw [hal.1] at eo
    obtain ⟨c0, c1, z1⟩ := RS.cells hr1
    by_cases hend : acc.length = k
    · have E : Hid (rL most f s = (acc, s')) := by show _ = _; rw [← HL.out, show k - acc.length = 0 by omega]; rfl
      have hq : ((acc.length : Int) == (k : Int)) = true := by simp; omega
      subst eo
      clear hend
      go_wp2_with fail
      refine hr _ _ ?_
      go_ret
      rw [E.out]
      exact ⟨_, rfl, ⟨ls, ho, hal⟩, hr1, hf1⟩
    · have hq : ((acc.length : Int) == (k : Int)) = false := by simp; omega
      have hstep : rLoop f (k - acc.length) acc s' = if s'.2 ≠ 0 then (acc, s') else rLoop f (k - (acc.length + 1)) (acc ++ [(f s').1]) (f s').2 := by
        rw [show k - acc.length = (k - (acc.length + 1)) + 1 by omega]
        rfl
      rw [HL.out] at hstep
      obtain ⟨l', e'⟩ := s'
      simp only [] at hstep c0 c1
      by_cases he : e' = 0
      · subst he
        rw [if_neg (by simp)] at hstep
        have HS : Hid (rL most f s = rLoop f (k - (acc.length + 1)) (acc ++ [(f (l', 0)).1]) (f (l', 0)).2) := hstep
        have R := HREAD.out w' (l', 0) hr1 hf1
        clear hstep
        generalize f (l', 0) = t at *
        obtain ⟨x, t⟩ := t
        simp only [] at R HS
        subst eo
        go_wp2_with fail
        refine R.mono ?_
        rintro x' w2 ⟨y, rfl, hy, r2, g2⟩
        have o2 := ho.beside hr1 (by decide) (by decide) g2
        have fA : Fr no w2 (w2.alloc (.cells #[.string y.name, .slice y.p.a y.p.n y.p.c, .int .i64 y.ret.k, .string y.ret.c, .int .i64 y.lo, .int .i64 y.st, .slice y.c.a y.c.n y.c.c, .slice y.h.a y.h.n y.h.c] 53)) := (Fr.refl no w2).alloc _ _
        have o3 := o2.kept fA (fun _ _ f => f)
        have r3 := r2.new fA
        have hS : Src Tryz.prog 8 26 (.slice (some ⟨w2.heap.size, 0, none⟩) 1 1) ([y] : List Ms).length (cg elMs [y]) (w2.alloc (.cells #[.string y.name, .slice y.p.a y.p.n y.p.c, .int .i64 y.ret.k, .string y.ret.c, .int .i64 y.lo, .int .i64 y.st, .slice y.c.a y.c.n y.c.c, .slice y.h.a y.h.n y.h.c] 53)) := srcG_one okMs w2 y
        have hbb : ls.length + ([y] : List Ms).length ≤ 1000000 := by have := hal.1; simp; omega
        have f3 : Fr (PQ p q) w (w2.alloc (.cells #[.string y.name, .slice y.p.a y.p.n y.p.c, .int .i64 y.ret.k, .string y.ret.c, .int .i64 y.lo, .int .i64 y.st, .slice y.c.a y.c.n y.c.c, .slice y.h.a y.h.n y.h.c] 53)) := (hf1.trans g2 (fun _ _ e => e) (fun _ _ e => e)).trans fA (fun _ _ e => e) (fun _ _ f => f.elim)
        have B : Hid (∀ v4 w4, Sp no (.slice o acc.length cap) (w2.alloc (.cells #[.string y.name, .slice y.p.a y.p.n y.p.c, .int .i64 y.ret.k, .string y.ret.c, .int .i64 y.lo, .int .i64 y.st, .slice y.c.a y.c.n y.c.c, .slice y.h.a y.h.n y.h.c] 53)) v4 w4 → RT w4 p q t ∧ Fr (PQ p q) w w4 ∧ (∀ i, v4.ownBlock = some i → w.heap.size ≤ i) ∧ OwnAll w4 (ls ++ [y]) (acc ++ [x])) := by
          intro v4 w4 s4
          have hS4 : ∀ k, (no k ∨ (Value.slice o acc.length cap).ownBlock = some k) → k ≠ p ∧ k ≠ q ∧ ∀ cur t fz, (w2.alloc (.cells #[.string y.name, .slice y.p.a y.p.n y.p.c, .int .i64 y.ret.k, .string y.ret.c, .int .i64 y.lo, .int .i64 y.st, .slice y.c.a y.c.n y.c.c, .slice y.h.a y.h.n y.h.c] 53)).heap[k]? = some (.cells cur t fz) → ∀ u ∈ cur.toList, nob u := by
            rintro k (hk | hk)
            · exact hk.elim
            · have hk0 := ho0 k hk
              exact ⟨by omega, by omega, fun cur t fz hc => o3.2 k cur t fz hk hc⟩
          refine ⟨RT.away r3 hS4 s4.1, f3.trans s4.1 (fun _ _ e => e) (fun i hi e => e.elim (fun e => e.elim) (fun e => by have := ho0 i e; omega)), fun i hi => ?_, ?_⟩
          · rcases Nat.lt_or_ge i (w2.alloc (.cells #[.string y.name, .slice y.p.a y.p.n y.p.c, .int .i64 y.ret.k, .string y.ret.c, .int .i64 y.lo, .int .i64 y.st, .slice y.c.a y.c.n y.c.c, .slice y.h.a y.h.n y.h.c] 53)).heap.size with hh | hh
            · exact ho0 i (s4.2 i hh hi)
            · exact Nat.le_trans f3.size hh
          · have hT : ∀ k, (no k ∨ (Value.slice o acc.length cap).ownBlock = some k) → ∀ cur t fz, (w2.alloc (.cells #[.string y.name, .slice y.p.a y.p.n y.p.c, .int .i64 y.ret.k, .string y.ret.c, .int .i64 y.lo, .int .i64 y.st, .slice y.c.a y.c.n y.c.c, .slice y.h.a y.h.n y.h.c] 53)).heap[k]? = some (.cells cur t fz) → t ≠ 46 ∧ t ≠ 57 ∧ t ≠ 59 := by
              rintro k (hk | hk) cur t fz e
              · exact hk.elim
              · obtain ⟨cur', e'⟩ := o3.tag hk
                rw [e'] at e
                simp only [Option.some.injEq, Obj.cells.injEq] at e
                rw [← e.2.1]
                decide
            exact (((hal.beside hr1 g2).but fA (fun _ f => f.elim)).snoc (hy.but fA (fun _ f => f.elim))).but s4.1 hT
        clear R o2 hf1 fA f3 g2 hr1
        go_wp2_with (at_builtin; refine wpList_apdG okMs _ rfl rfl (.tmp 26) (.tmp 30) rfl _ ls rfl o3 _ rfl [y] hS (by simp) hbb ?_; intro v4 w4 o4 s4; have b4 := B.out v4 w4 s4; obtain ⟨oo, cc, e4⟩ := o4.form; rw [List.length_append] at e4; subst e4)
        go_step3
        refine hj _ _ ⟨k, acc ++ [x], t, _, _, _, _, _, _, _, _, _, _, _, _, _, _, _, _, _, _, _, _, _, _, _, _, _, _, _, _, rfl, hk, by simp; omega, ⟨_, o4, b4.2.2.2⟩, b4.2.2.1, b4.1, b4.2.1, ?_⟩ ?_
        · rw [HS.out, List.length_append]; rfl
        · have := hal.1; simp [intOf, slen]; omega
      · rw [if_pos he] at hstep
        have E : Hid (rL most f s = (acc, (l', e'))) := hstep
        have he' : ((e' : Int) == 0) = false := beq_eq_false_iff_ne.2 (by omega)
        subst eo
        clear hstep
        go_wp2_with fail
        refine hr _ _ ?_
        go_ret
        rw [E.out]
        exact ⟨_, rfl, ⟨ls, ho, hal⟩, hr1, hf1⟩
end Go.Proofs.YthncdbobjeeeaaaGreatDoor

/- Decode. -/
namespace Go.Proofs.YthncdbobjeeeaaaGreatDoor
open Go.ChangeShapes Go.WideShapes Go.ChangeAt Go.RowKit

theorem results_8 (w : World) (r : Nat) (x0 x1 x2 x3 x4 y : Value) (h : w.heap[r]? = some (.cells #[x0, x1, x2, x3, x4] 28 (0, 0))) (tmps : Array Value) (h2 : tmps.getD 2 undef = .pointer (some ⟨r, 0, none⟩)) (h3 : tmps.getD 3 undef = y) :
    (results Tryz.f8 tmps).run Tryz.prog w = .ok (.tuple #[.agg #[x0, x1, x2, x3, x4], y]) w := by
  have hl : (loadVar 28 ⟨r, 0, none⟩).run Tryz.prog w = .ok (.agg #[x0, x1, x2, x3, x4]) w := run_loadVar_row (P := Tryz.prog) w r 28 28 #[x0, x1, x2, x3, x4] (0, 0) _ h Tryz.underlying28 rfl (by kernel_rfl)
  have h2' : tmps[2]?.getD undef = .pointer (some ⟨r, 0, none⟩) := by simpa using h2
  have h3' : tmps[3]?.getD undef = y := by simpa using h3
  simp [results, asAddr, h2', h3', hl]

def zKs : Ks := ⟨e0, e0, ⟨none, 0, 0⟩, ⟨none, 0, 0⟩, ⟨none, 0, 0⟩⟩
theorem zKs_at (w : World) : ClAt w zKs zCl := ⟨rfl, rfl, (OwnG.nil _ _).sl okCs, (OwnG.nil _ _).sl okFd, [], (OwnG.nil _ _).sl okMs, rfl, fun i s m h _ => by simp at h⟩

theorem rAll_eq (b : List Nat) : rAll b = (⟨(tkT 20 (rMark (b, 0))).1, (tkT 20 (tkT 20 (rMark (b, 0))).2).1, (rL 128 rCs (tkT 20 (tkT 20 (rMark (b, 0))).2).2).1, (rL 8 rFd (rL 128 rCs (tkT 20 (tkT 20 (rMark (b, 0))).2).2).2).1, (rL 12 rMt (rL 8 rFd (rL 128 rCs (tkT 20 (tkT 20 (rMark (b, 0))).2).2).2).2).1⟩, tkEnd ((rL 12 rMt (rL 8 rFd (rL 128 rCs (tkT 20 (tkT 20 (rMark (b, 0))).2).2).2).2).2)) := by simp only [rAll, rCl, pr]
theorem rAll_fit (b : List Nat) (hb : ∀ c ∈ b, c < 256) : FitK (rAll b).1 := by
  have hB : By (b, 0) := hb
  have hM : By (rMark (b, 0)) := by have := goodMark.by_ hB; rwa [pMark_eq] at this
  unfold rAll
  simp only []
  exact goodCl.fit _ hM

set_option maxRecDepth 100000 in
set_option maxHeartbeats 4000000 in
theorem decode_any (w : World) (T : Tb w) (R : Tr w) (v : Value) (l : List Nat) (h : Sl w v l) (hl : ∀ c ∈ l, c < 256) (hb : l.length ≤ 1099511627776) :
    Calls Tryz.prog 8 #[v] w fun x w' => ∃ ks : Ks, x = .returned (.tuple #[ksV ks, .int .i64 (dcE l : Int)]) ∧ ClAt w' ks (dcC l) ∧ Fr no w w' := by
  have f0 : Fr no w (w.alloc (.cells #[.string ⟨#[]⟩, .string ⟨#[]⟩, .slice none 0 0, .slice none 0 0, .slice none 0 0] 28)) := (Fr.refl no w).alloc _ _
  have hb0 : (w.alloc (.cells #[.string ⟨#[]⟩, .string ⟨#[]⟩, .slice none 0 0, .slice none 0 0, .slice none 0 0] 28)).heap[w.heap.size]? = some (.cells #[.string ⟨#[]⟩, .string ⟨#[]⟩, .slice none 0 0, .slice none 0 0, .slice none 0 0] 28 (0, 0)) := heap_alloc_new w _
  have hsz : (w.alloc (.cells #[.string ⟨#[]⟩, .string ⟨#[]⟩, .slice none 0 0, .slice none 0 0, .slice none 0 0] 28)).heap.size = w.heap.size + 1 := size_alloc _ _
  have h' := h.kept f0 (fun _ _ _ f => f)
  obtain ⟨va, vc, ev, _⟩ := h.shape
  subst ev
  generalize hW : w.alloc (.cells #[.string ⟨#[]⟩, .string ⟨#[]⟩, .slice none 0 0, .slice none 0 0, .slice none 0 0] 28) = W at *
  by_cases hbig : 20000 < l.length
  · have HE : Hid (dcE l = 32) := by show _ = _; unfold dcE; rw [if_pos hbig]
    have HC : Hid (dcC l = zCl) := by show _ = _; unfold dcC; rw [HE.out, if_neg (by decide)]
    obtain ⟨⟨b0, b1, b2, b3, b4⟩, bz0, bz1, bz2, bz3, bz4⟩ := cells5z hb0
    have hcmp : decide ((20000 : Int) < (l.length : Int)) = true := by simp; omega
    go_enter Tryz.func8, Tryz.ntmps8
    go_wp2_with fail
    refine bodyPost_ret (results_8 _ w.heap.size _ _ _ _ _ (.int .i64 32) (set_chain5 hb0) _ rfl rfl) rfl ?_
    have FF := fr_chain5 W w.heap.size (.string ⟨#[]⟩) (.string ⟨#[]⟩) (.slice none 0 0) (.slice none 0 0) (.slice none 0 0)
    rw [HE.out, HC.out]
    exact ⟨zKs, rfl, zKs_at _, f0.trans FF (fun _ _ f => f.elim) (fun i hi e => by omega)⟩
  have hcmp : decide ((20000 : Int) < (l.length : Int)) = false := by simp; omega
  have HE : Hid (dcE l = if (rAll l).2.2 = 0 then chk (rAll l).1 else (rAll l).2.2) := by show _ = _; unfold dcE; rw [if_neg hbig]
  have HCl : Hid (dcC l = if dcE l = 0 then (rAll l).1 else zCl) := rfl
  have HA : Hid (rAll l = (⟨(tkT 20 (rMark (l, 0))).1, (tkT 20 (tkT 20 (rMark (l, 0))).2).1, (rL 128 rCs (tkT 20 (tkT 20 (rMark (l, 0))).2).2).1, (rL 8 rFd (rL 128 rCs (tkT 20 (tkT 20 (rMark (l, 0))).2).2).2).1, (rL 12 rMt (rL 8 rFd (rL 128 rCs (tkT 20 (tkT 20 (rMark (l, 0))).2).2).2).2).1⟩, tkEnd ((rL 12 rMt (rL 8 rFd (rL 128 rCs (tkT 20 (tkT 20 (rMark (l, 0))).2).2).2).2).2))) := rAll_eq l
  have HFit : Hid (FitK (rAll l).1) := rAll_fit l hl
  generalize rAll l = ra at *
  clear hbig
  go_enter Tryz.func8, Tryz.ntmps8
  go_wp2_with fail
  refine (rOpen_any W _ l h' hl hb).mono ?_
  rintro x w1 ⟨p, q, rfl, hp, hq, r1, f1⟩
  have fw1 : Fr no w w1 := f0.new f1 (fun _ _ f => f)
  have HT : Hid (Tb w1 ∧ Tr w1) := ⟨T.kept fw1, R.kept fw1⟩
  have hb1 := f1.heap hb0 (fun f => f)
  have HB0 : Hid (∀ wx, Fr (PQ p q) w1 wx → wx.heap[w.heap.size]? = some (.cells #[.string ⟨#[]⟩, .string ⟨#[]⟩, .slice none 0 0, .slice none 0 0, .slice none 0 0] 28 (0, 0))) := fun wx fx => fx.heap hb1 (fun e => e.elim (fun e => by omega) (fun e => by omega))
  have HW : Hid (Fr no w w1) := fw1
  have HR1 : Hid (RT w1 p q (l, 0)) := r1
  clear fw1 hb1 hb0 h' f1 T R h f0
  go_wp2_with fail
  refine (readMark_any w1 p q (l, 0) r1).mono ?_
  rintro x w2 ⟨rfl, r2, f2⟩
  generalize rMark (l, 0) = t2 at *
  clear r1
  go_wp2_with fail
  refine (rName_any w2 p q t2 r2).mono ?_
  rintro x w3 ⟨rfl, r3, g3⟩
  have f3 := f2.trans g3 (fun _ _ e => e) (U := PQ p q) (fun _ _ e => e)
  clear f2 g3
  generalize tkT 20 t2 = t3 at *
  obtain ⟨nm, t3⟩ := t3
  simp only [] at r3 HA ⊢
  go_wp2_with fail
  refine (rName_any w3 p q t3 r3).mono ?_
  rintro x w4 ⟨rfl, r4, g4⟩
  have f4 := f3.trans g4 (fun _ _ e => e) (U := PQ p q) (fun _ _ e => e)
  clear f3 g4
  generalize tkT 20 t3 = t4 at *
  obtain ⟨su, t4⟩ := t4
  simp only [] at r4 HA ⊢
  go_wp2_with fail
  refine (readCs_list w4 p q t4 r4 128 (by omega) rCs (fun w1 s1 h1 _ => readConst_any w1 p q s1 h1)).mono ?_
  rintro x w5 ⟨v5, rfl, o5, r5, g5⟩
  have f5 := f4.trans g5 (fun _ _ e => e) (U := PQ p q) (fun _ _ e => e)
  clear f4 g5
  generalize rL 128 rCs t4 = t5 at *
  obtain ⟨pl, t5⟩ := t5
  simp only [] at r5 o5 HA ⊢
  obtain ⟨pa, pc, e5⟩ := o5.form
  subst e5
  go_wp2_with fail
  refine (readFd_list w5 p q t5 r5 8 (by omega) rFd (fun w1 s1 h1 _ => readField_any w1 p q s1 h1)).mono ?_
  rintro x w6 ⟨v6, rfl, q6, r6, g6⟩
  have o6 := o5.beside r5 (by decide) (by decide) g6
  have f6 := f5.trans g6 (fun _ _ e => e) (U := PQ p q) (fun _ _ e => e)
  clear f5 g6 o5
  generalize rL 8 rFd t5 = t6 at *
  obtain ⟨fl, t6⟩ := t6
  simp only [] at r6 q6 HA ⊢
  obtain ⟨fa, fc, e6⟩ := q6.form
  subst e6
  have M := readMs_list w6 p q t6 r6 12 (by omega) rMt (fun w1 s1 h1 g1 => readMethod_any w1 (HT.out.1.beside HR1.out (f6.trans g1 (fun _ _ e => e) (fun _ _ e => e))) p q s1 h1)
  go_wp2_with fail
  refine M.mono ?_
  rintro x w7 ⟨v7, rfl, ⟨ls, m7, a7⟩, r7, g7⟩
  have o7 := o6.beside r6 (by decide) (by decide) g7
  have q7 := q6.beside r6 (by decide) (by decide) g7
  have f7 := f6.trans g7 (fun _ _ e => e) (U := PQ p q) (fun _ _ e => e)
  clear f6 g7 o6 q6 M r6 r5 r4 r3 r2
  generalize rL 12 rMt t6 = t7 at *
  obtain ⟨ml, t7⟩ := t7
  simp only [] at r7 m7 a7 HA ⊢
  obtain ⟨ma, mc, e7⟩ := m7.form
  subst e7
  have HO : Hid (∀ wx, Fr (fun k => PQ p q k ∨ k = w.heap.size) w7 wx → ClAt wx ⟨nm, su, ⟨pa, pl.length, pc⟩, ⟨fa, fl.length, fc⟩, ⟨ma, ls.length, mc⟩⟩ ⟨nm, su, pl, fl, ml⟩) := by
    intro wx fx
    have hS : ∀ k, (PQ p q k ∨ k = w.heap.size) → ∀ cur t fz, w7.heap[k]? = some (.cells cur t fz) → t = 74 ∨ t = 176 ∨ t = 28 := by
      rintro k (hk | rfl) cur t fz e
      · rcases pq_tag r7 k hk cur t fz e with e | e
        · exact .inl e
        · exact .inr (.inl e)
      · rw [HB0.out w7 f7] at e
        simp only [Option.some.injEq, Obj.cells.injEq] at e
        exact .inr (.inr e.2.1.symm)
    refine ⟨rfl, rfl, (o7.but fx (fun k hk cur t fz e => ?_)).sl okCs, (q7.but fx (fun k hk cur t fz e => ?_)).sl okFd, ls, (m7.but fx (fun k hk cur t fz e => ?_)).sl okMs, (a7.but fx (fun k hk cur t fz e => ?_)).at⟩
    all_goals rcases hS k hk cur t fz e with rfl | rfl | rfl <;> decide
  have fa7 : Fr no w7 (w7.alloc (.cells #[.string ⟨#[]⟩, .string ⟨#[]⟩, .slice none 0 0, .slice none 0 0, .slice none 0 0] 28)) := (Fr.refl no w7).alloc _ _
  have hA : (w7.alloc (.cells #[.string ⟨#[]⟩, .string ⟨#[]⟩, .slice none 0 0, .slice none 0 0, .slice none 0 0] 28)).heap[w7.heap.size]? = some (.cells #[.string ⟨#[]⟩, .string ⟨#[]⟩, .slice none 0 0, .slice none 0 0, .slice none 0 0] 28 (0, 0)) := heap_alloc_new w7 _
  have hlt7 := r7.lt
  have hsz7 := f7.size
  have hsz1 := HW.out.size
  have hA8 := set_chain5 hA (x0 := .string nm) (x1 := .string su) (x2 := .slice pa pl.length pc) (x3 := .slice fa fl.length fc) (x4 := .slice ma ls.length mc)
  have FA := fr_chain5 (w7.alloc (.cells #[.string ⟨#[]⟩, .string ⟨#[]⟩, .slice none 0 0, .slice none 0 0, .slice none 0 0] 28)) w7.heap.size (.string nm) (.string su) (.slice pa pl.length pc) (.slice fa fl.length fc) (.slice ma ls.length mc)
  have g8 : Fr no w7 _ := fa7.trans FA (fun _ _ f => f.elim) (fun i hi e => by omega)
  have r8 : RT _ p q t7 := r7.new g8
  have f8 := f7.trans g8 (fun _ _ e => e) (U := PQ p q) (fun _ _ f => f.elim)
  obtain ⟨⟨b0, b1, b2, b3, b4⟩, bz0, bz1, bz2, bz3, bz4⟩ := cells5z hA
  have hne7 : ¬ w7.heap.size = w.heap.size := by
    have := (HB0.out w7 f7)
    intro e
    rw [← e] at this
    simp at this
  clear o7 q7 m7 a7 FA r7 hA fa7
  generalize hW7 : w7.alloc (.cells #[.string ⟨#[]⟩, .string ⟨#[]⟩, .slice none 0 0, .slice none 0 0, .slice none 0 0] 28) = W7 at *
  go_wp2_with fail
  clear hW7 b0 b1 b2 b3 b4 bz0 bz1 bz2 bz3 bz4
  generalize (((((W7.setCell ⟨w7.heap.size, 0, none⟩ (.string nm)).setCell ⟨w7.heap.size, 1, none⟩ (.string su)).setCell ⟨w7.heap.size, 2, none⟩ (.slice pa pl.length pc)).setCell ⟨w7.heap.size, 3, none⟩ (.slice fa fl.length fc)).setCell ⟨w7.heap.size, 4, none⟩ (.slice ma ls.length mc)) = w8 at *
  refine (rEnd_any w8 p q t7 r8).mono ?_
  rintro x w9 ⟨rfl, r9, g9⟩
  have HB5 : Hid (∀ wx, Fr (PQ p q) w8 wx → wx.heap[w7.heap.size]? = some (.cells #[.string nm, .string su, .slice pa pl.length pc, .slice fa fl.length fc, .slice ma ls.length mc] 28 (0, 0))) := fun wx fx => fx.heap hA8 (fun e => e.elim (fun e => by omega) (fun e => by omega))
  have f9 := f8.trans g9 (fun _ _ e => e) (U := PQ p q) (fun _ _ e => e)
  have g79 : Fr (PQ p q) w7 w9 := g8.trans g9 (fun _ _ f => f.elim) (fun _ _ e => e)
  have HG : Hid (Fr (PQ p q) w7 w9 ∧ Fr (PQ p q) w8 w9) := ⟨g79, g9⟩
  clear r8 f8 hA8 g8 g9 g79 f7
  have HE9 : Hid (ra.2.2 = (tkEnd t7).2) := by show _ = _; rw [HA.out]
  have HC9 : Hid (ra.1 = ⟨nm, su, pl, fl, ml⟩) := by show _ = _; rw [HA.out]
  generalize tkEnd t7 = t9 at *
  obtain ⟨l9, e9⟩ := t9
  simp only [] at HE9
  obtain ⟨c0, c1, z1⟩ := RS.cells r9
  simp only [] at c0 c1
  have hB0 := HB0.out w9 f9
  have hB5 := HB5.out w9 HG.out.2
  obtain ⟨⟨b0, b1, b2, b3, b4⟩, bz0, bz1, bz2, bz3, bz4⟩ := cells5z hB0
  obtain ⟨⟨d0, d1, d2, d3, d4⟩, dz0, dz1, dz2, dz3, dz4⟩ := cells5z hB5
  by_cases he : e9 = 0
  · subst he
    have C := check_any w9 (HT.out.1.beside HR1.out f9) (HT.out.2.beside HR1.out f9) ⟨nm, su, ⟨pa, pl.length, pc⟩, ⟨fa, fl.length, fc⟩, ⟨ma, ls.length, mc⟩⟩ ⟨nm, su, pl, fl, ml⟩ (HO.out w9 (HG.out.1.mono (fun _ _ e => .inl e))) (by have := HFit.out; rw [HC9.out] at this; exact this.1)
    have HE' : Hid (dcE l = chk ⟨nm, su, pl, fl, ml⟩) := by show _ = _; rw [HE.out, HE9.out, if_pos rfl, HC9.out]
    have HCl' : Hid (dcC l = if chk ⟨nm, su, pl, fl, ml⟩ = 0 then ⟨nm, su, pl, fl, ml⟩ else zCl) := by show _ = _; rw [HCl.out, HE'.out, HC9.out]
    unfold ksV at C
    simp only [] at C
    generalize chk ⟨nm, su, pl, fl, ml⟩ = ck at *
    go_wp2_with fail
    refine C.mono ?_
    rintro x w10 ⟨rfl, f10⟩
    have r10 : RT w10 p q (l9, 0) := r9.new f10
    obtain ⟨c0', c1', z1'⟩ := RS.cells r10
    have S11 := RS.set r10 ck
    have f1p : Fr (PQ p q) w10 (w10.setCell ⟨p, 1, none⟩ (.int .i64 (ck : Int))) := S11.2.mono (fun _ _ e => .inl e)
    have fA : Fr (PQ p q) w9 (w10.setCell ⟨p, 1, none⟩ (.int .i64 (ck : Int))) := f10.trans f1p (fun _ _ f => f.elim) (fun _ _ e => e)
    have hB0' := HB0.out _ (f9.trans fA (fun _ _ e => e) (fun _ _ e => e))
    have hB5' := HB5.out _ (HG.out.2.trans fA (fun _ _ e => e) (fun _ _ e => e))
    obtain ⟨k0, k1, kz⟩ := RS.cells S11.1
    clear b0 b1 b2 b3 b4 bz0 bz1 bz2 bz3 bz4 d0 d1 d2 d3 d4 dz0 dz1 dz2 dz3 dz4 c0 c1 z1 hB0 hB5
    obtain ⟨⟨b0, b1, b2, b3, b4⟩, bz0, bz1, bz2, bz3, bz4⟩ := cells5z hB0'
    obtain ⟨⟨d0, d1, d2, d3, d4⟩, dz0, dz1, dz2, dz3, dz4⟩ := cells5z hB5'
    generalize hW11 : w10.setCell ⟨p, 1, none⟩ (.int .i64 (ck : Int)) = W11 at *
    have HFA : Hid (Fr (PQ p q) w9 W11) := fA
    clear fA f1p S11 r10 f10 C
    by_cases hck : ck = 0
    · have HE2 : Hid (dcE l = 0) := by show _ = _; rw [HE'.out, hck]
      have HC2 : Hid (dcC l = ⟨nm, su, pl, fl, ml⟩) := by show _ = _; rw [HCl'.out, if_pos hck]
      have hck' : ((ck : Int) == 0) = true := by simp [hck]
      clear hck
      go_wp2_with fail
      have hZ : ((World.setCell (World.setCell (World.setCell (World.setCell (World.setCell W11 ⟨w.heap.size, 0, none⟩ (.string nm)) ⟨w.heap.size, 1, none⟩ (.string su)) ⟨w.heap.size, 2, none⟩ (.slice pa pl.length pc)) ⟨w.heap.size, 3, none⟩ (.slice fa fl.length fc)) ⟨w.heap.size, 4, none⟩ (.slice ma ls.length mc))).heap[w.heap.size]? = some (.cells #[.string nm, .string su, .slice pa pl.length pc, .slice fa fl.length fc, .slice ma ls.length mc] 28 (0, 0)) := set_chain5 hB0'
      refine bodyPost_ret (results_8 (World.setCell (World.setCell (World.setCell (World.setCell (World.setCell W11 ⟨w.heap.size, 0, none⟩ (.string nm)) ⟨w.heap.size, 1, none⟩ (.string su)) ⟨w.heap.size, 2, none⟩ (.slice pa pl.length pc)) ⟨w.heap.size, 3, none⟩ (.slice fa fl.length fc)) ⟨w.heap.size, 4, none⟩ (.slice ma ls.length mc)) w.heap.size _ _ _ _ _ (.int .i64 0) hZ _ rfl rfl) rfl ?_
      have FF := fr_chain5 W11 w.heap.size (.string nm) (.string su) (.slice pa pl.length pc) (.slice fa fl.length fc) (.slice ma ls.length mc)
      have f12 : Fr (fun k => PQ p q k ∨ k = w.heap.size) w9 _ := HFA.out.trans FF (fun _ _ e => .inl e) (fun _ _ e => .inr e)
      rw [HE2.out, HC2.out]
      refine ⟨⟨nm, su, ⟨pa, pl.length, pc⟩, ⟨fa, fl.length, fc⟩, ⟨ma, ls.length, mc⟩⟩, rfl, HO.out _ (HG.out.1.trans f12 (fun _ _ e => .inl e) (fun _ _ e => e)), ?_⟩
      exact HW.out.trans (f9.trans f12 (fun _ _ e => .inl e) (fun _ _ e => e)) (fun _ _ f => f.elim) (fun i hi e => by rcases e with (rfl | rfl) | rfl <;> omega)
    · have HE2 : Hid (dcE l = ck) := HE'
      have HC2 : Hid (dcC l = zCl) := by show _ = _; rw [HCl'.out, if_neg hck]
      have hck' : ((ck : Int) == 0) = false := beq_eq_false_iff_ne.2 (by omega)
      clear hck
      go_wp2_with fail
      go_region
      go_wp2_with fail
      have hZ : (World.drew (World.setCell (World.setCell (World.setCell (World.setCell (World.setCell W11 ⟨w.heap.size, 0, none⟩ (.string ⟨#[]⟩)) ⟨w.heap.size, 1, none⟩ (.string ⟨#[]⟩)) ⟨w.heap.size, 2, none⟩ (.slice none 0 0)) ⟨w.heap.size, 3, none⟩ (.slice none 0 0)) ⟨w.heap.size, 4, none⟩ (.slice none 0 0))).heap[w.heap.size]? = some (.cells #[.string ⟨#[]⟩, .string ⟨#[]⟩, .slice none 0 0, .slice none 0 0, .slice none 0 0] 28 (0, 0)) := set_chain5 hB0'
      have FF : Fr (fun k => k = w.heap.size) W11 (World.drew (World.setCell (World.setCell (World.setCell (World.setCell (World.setCell W11 ⟨w.heap.size, 0, none⟩ (.string ⟨#[]⟩)) ⟨w.heap.size, 1, none⟩ (.string ⟨#[]⟩)) ⟨w.heap.size, 2, none⟩ (.slice none 0 0)) ⟨w.heap.size, 3, none⟩ (.slice none 0 0)) ⟨w.heap.size, 4, none⟩ (.slice none 0 0))) := (fr_chain5 W11 w.heap.size (.string ⟨#[]⟩) (.string ⟨#[]⟩) (.slice none 0 0) (.slice none 0 0) (.slice none 0 0)).drew
      refine bodyPost_ret (results_8 (World.drew (World.setCell (World.setCell (World.setCell (World.setCell (World.setCell W11 ⟨w.heap.size, 0, none⟩ (.string ⟨#[]⟩)) ⟨w.heap.size, 1, none⟩ (.string ⟨#[]⟩)) ⟨w.heap.size, 2, none⟩ (.slice none 0 0)) ⟨w.heap.size, 3, none⟩ (.slice none 0 0)) ⟨w.heap.size, 4, none⟩ (.slice none 0 0))) w.heap.size _ _ _ _ _ (.int .i64 (ck : Int)) hZ _ rfl rfl) rfl ?_
      rw [HE2.out, HC2.out]
      exact ⟨zKs, rfl, zKs_at _, HW.out.trans ((f9.trans HFA.out (fun _ _ e => e) (U := PQ p q) (fun _ _ e => e)).trans FF (U := fun k => PQ p q k ∨ k = w.heap.size) (fun _ _ e => .inl e) (fun _ _ e => .inr e)) (fun _ _ f => f.elim) (fun i hi e => by rcases e with (rfl | rfl) | rfl <;> omega)⟩
  · have HE2 : Hid (dcE l = e9) := by show _ = _; rw [HE.out, HE9.out, if_neg he]
    have HC2 : Hid (dcC l = zCl) := by show _ = _; rw [HCl.out, HE2.out, if_neg he]
    have he' : ((e9 : Int) == 0) = false := beq_eq_false_iff_ne.2 (by omega)
    clear he
    go_wp2_with fail
    go_region
    go_wp2_with fail
    have hZ : (World.drew (World.setCell (World.setCell (World.setCell (World.setCell (World.setCell w9 ⟨w.heap.size, 0, none⟩ (.string ⟨#[]⟩)) ⟨w.heap.size, 1, none⟩ (.string ⟨#[]⟩)) ⟨w.heap.size, 2, none⟩ (.slice none 0 0)) ⟨w.heap.size, 3, none⟩ (.slice none 0 0)) ⟨w.heap.size, 4, none⟩ (.slice none 0 0))).heap[w.heap.size]? = some (.cells #[.string ⟨#[]⟩, .string ⟨#[]⟩, .slice none 0 0, .slice none 0 0, .slice none 0 0] 28 (0, 0)) := set_chain5 hB0
    have FF : Fr (fun k => k = w.heap.size) w9 (World.drew (World.setCell (World.setCell (World.setCell (World.setCell (World.setCell w9 ⟨w.heap.size, 0, none⟩ (.string ⟨#[]⟩)) ⟨w.heap.size, 1, none⟩ (.string ⟨#[]⟩)) ⟨w.heap.size, 2, none⟩ (.slice none 0 0)) ⟨w.heap.size, 3, none⟩ (.slice none 0 0)) ⟨w.heap.size, 4, none⟩ (.slice none 0 0))) := (fr_chain5 w9 w.heap.size (.string ⟨#[]⟩) (.string ⟨#[]⟩) (.slice none 0 0) (.slice none 0 0) (.slice none 0 0)).drew
    refine bodyPost_ret (results_8 (World.drew (World.setCell (World.setCell (World.setCell (World.setCell (World.setCell w9 ⟨w.heap.size, 0, none⟩ (.string ⟨#[]⟩)) ⟨w.heap.size, 1, none⟩ (.string ⟨#[]⟩)) ⟨w.heap.size, 2, none⟩ (.slice none 0 0)) ⟨w.heap.size, 3, none⟩ (.slice none 0 0)) ⟨w.heap.size, 4, none⟩ (.slice none 0 0))) w.heap.size _ _ _ _ _ (.int .i64 (e9 : Int)) hZ _ rfl rfl) rfl ?_
    rw [HE2.out, HC2.out]
    exact ⟨zKs, rfl, zKs_at _, HW.out.trans (f9.trans FF (U := fun k => PQ p q k ∨ k = w.heap.size) (fun _ _ e => .inl e) (fun _ _ e => .inr e)) (fun _ _ f => f.elim) (fun i hi e => by rcases e with (rfl | rfl) | rfl <;> omega)⟩
end Go.Proofs.YthncdbobjeeeaaaGreatDoor

