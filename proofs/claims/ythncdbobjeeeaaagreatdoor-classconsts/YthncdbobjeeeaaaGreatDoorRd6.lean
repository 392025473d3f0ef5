/- The class reader: a method, and the list of methods. -/
import Derived.Test.YthncdbobjeeeaaaGreatDoorRlist
import Derived.Test.YthncdbobjeeeaaaGreatDoorDec
namespace Go.Proofs.YthncdbobjeeeaaaGreatDoor
open Go.ChangeShapes Go.WideShapes Go.ChangeAt Go.RowKit

theorem OwnG.but {α : Type} {K : El α} {S : Nat → Prop} {w w' : World} {v : Value} {l : List α} (h : OwnG K w v l) (hf : Fr S w w') (hS : ∀ k, S k → ∀ cur t fz, w.heap[k]? = some (.cells cur t fz) → t ≠ K.e) : OwnG K w' v l :=
  h.kept hf (fun k hk e => by obtain ⟨cur, ht⟩ := h.tag hk; exact hS k e _ _ _ ht rfl)
theorem OwnI.but {S : Nat → Prop} {w w' : World} {v : Value} {l : List (Int × Int)} (h : OwnI w v l) (hf : Fr S w w') (hS : ∀ k, S k → ∀ cur t fz, w.heap[k]? = some (.cells cur t fz) → t ≠ 57) : OwnI w' v l :=
  h.kept hf (fun k hk e => by obtain ⟨cur, ht⟩ := h.tag hk; exact hS k e _ _ _ ht rfl)

/-- A method whose rows are its own. -/
structure MtOwn (w : World) (s : Ms) (m : Mt) : Prop where
  name : s.name = m.name
  ret : s.ret = m.ret
  lo : s.lo = m.lo
  st : s.st = m.st
  p : OwnG elTy w (.slice s.p.a s.p.n s.p.c) m.params
  c : OwnI w (.slice s.c.a s.c.n s.c.c) m.code
  h : OwnG elHd w (.slice s.h.a s.h.n s.h.c) m.hands

theorem MtOwn.at {w : World} {s : Ms} {m : Mt} (h : MtOwn w s m) : MtAt w s m := ⟨h.name, h.ret, h.lo, h.st, h.p.sl okTy, h.c.sl, h.h.sl okHd⟩

theorem MtOwn.but {S : Nat → Prop} {w w' : World} {s : Ms} {m : Mt} (h : MtOwn w s m) (hf : Fr S w w') (hS : ∀ k, S k → ∀ cur t fz, w.heap[k]? = some (.cells cur t fz) → t ≠ 46 ∧ t ≠ 57 ∧ t ≠ 59) : MtOwn w' s m :=
  ⟨h.name, h.ret, h.lo, h.st, h.p.but hf (fun k hk cur t fz e => (hS k hk cur t fz e).1), h.c.but hf (fun k hk cur t fz e => (hS k hk cur t fz e).2.1), h.h.but hf (fun k hk cur t fz e => (hS k hk cur t fz e).2.2)⟩

theorem pq_tag {w : World} {p q : Nat} {s : List Nat × Nat} (hr : RT w p q s) : ∀ k, PQ p q k → ∀ cur t fz, w.heap[k]? = some (.cells cur t fz) → t = 74 ∨ t = 176 := by
  rintro k (rfl | rfl) cur t fz ht
  · rw [RS.blk hr] at ht
    simp only [Option.some.injEq, Obj.cells.injEq] at ht
    exact .inl ht.2.1.symm
  · obtain ⟨v, hv, _⟩ := RS.rd hr
    rw [hv] at ht
    simp only [Option.some.injEq, Obj.cells.injEq] at ht
    exact .inr ht.2.1.symm

def OwnAll (w : World) (ls : List Ms) (l : List Mt) : Prop := ls.length = l.length ∧ ∀ (i : Nat) (s : Ms) (m : Mt), ls[i]? = some s → l[i]? = some m → MtOwn w s m

theorem OwnAll.at {w : World} {ls : List Ms} {l : List Mt} (h : OwnAll w ls l) : AtAll w ls l := ⟨h.1, fun i s m h1 h2 => (h.2 i s m h1 h2).at⟩
theorem OwnAll.but {S : Nat → Prop} {w w' : World} {ls : List Ms} {l : List Mt} (h : OwnAll w ls l) (hf : Fr S w w') (hS : ∀ k, S k → ∀ cur t fz, w.heap[k]? = some (.cells cur t fz) → t ≠ 46 ∧ t ≠ 57 ∧ t ≠ 59) : OwnAll w' ls l :=
  ⟨h.1, fun i s m h1 h2 => (h.2 i s m h1 h2).but hf hS⟩
theorem OwnAll.snoc {w : World} {ls : List Ms} {l : List Mt} {y : Ms} {x : Mt} (h : OwnAll w ls l) (hy : MtOwn w y x) : OwnAll w (ls ++ [y]) (l ++ [x]) := by
  refine ⟨by simp [h.1], fun i s m h1 h2 => ?_⟩
  rcases Nat.lt_or_ge i ls.length with hi | hi
  · rw [List.getElem?_append_left hi] at h1
    rw [List.getElem?_append_left (by rw [← h.1]; exact hi)] at h2
    exact h.2 i s m h1 h2
  · rw [List.getElem?_append_right hi] at h1
    rw [List.getElem?_append_right (by rw [← h.1]; exact hi), ← h.1] at h2
    rcases Nat.eq_zero_or_pos (i - ls.length) with e | e
    · rw [e] at h1 h2
      simp at h1 h2
      subst h1 h2
      exact hy
    · rw [List.getElem?_eq_none (by simp; omega)] at h1
      simp at h1
theorem OwnAll.beside {w w' : World} {p q : Nat} {s : List Nat × Nat} {ls : List Ms} {l : List Mt} (h : OwnAll w ls l) (hr : RT w p q s) (hf : Fr (PQ p q) w w') : OwnAll w' ls l :=
  h.but hf (fun k hk cur t fz e => by rcases pq_tag hr k hk cur t fz e with rfl | rfl <;> decide)

theorem rMt_eq (s : St) : rMt s = (⟨(tkT 20 s).1, (rL 6 rTy (tkT 20 s).2).1, (rTy (rL 6 rTy (tkT 20 s).2).2).1, ((tkN 32 (rTy (rL 6 rTy (tkT 20 s).2).2).2).1 : Int), ((tkN 64 (tkN 32 (rTy (rL 6 rTy (tkT 20 s).2).2).2).2).1 : Int), (rCode (tkN 64 (tkN 32 (rTy (rL 6 rTy (tkT 20 s).2).2).2).2).2).1, (rL 16 rHd (rCode (tkN 64 (tkN 32 (rTy (rL 6 rTy (tkT 20 s).2).2).2).2).2).2).1⟩, (rL 16 rHd (rCode (tkN 64 (tkN 32 (rTy (rL 6 rTy (tkT 20 s).2).2).2).2).2).2).2) := by simp only [rMt, pr]

set_option maxRecDepth 100000 in
set_option maxHeartbeats 4000000 in
theorem readMethod_any (w : World) (T : Tb w) (p q : Nat) (s : St) (h : RT w p q s) :
    Calls Tryz.prog 24 #[.pointer (some ⟨p, 0, none⟩)] w fun x w' => ∃ y : Ms, x = .returned (.agg #[.string y.name, .slice y.p.a y.p.n y.p.c, .int .i64 y.ret.k, .string y.ret.c, .int .i64 y.lo, .int .i64 y.st, .slice y.c.a y.c.n y.c.c, .slice y.h.a y.h.n y.h.c]) ∧ MtOwn w' y (rMt s).1 ∧ RT w' p q (rMt s).2 ∧ Fr (PQ p q) w w' := by
  have f0 : Fr no w (w.alloc (.cells #[.string e0, .slice none 0 0, .int .i64 0, .string e0, .int .i64 0, .int .i64 0, .slice none 0 0, .slice none 0 0] 53)) := (Fr.refl no w).alloc _ _
  have hb0 := heap_alloc_new w (.cells #[.string e0, .slice none 0 0, .int .i64 0, .string e0, .int .i64 0, .int .i64 0, .slice none 0 0, .slice none 0 0] 53)
  have hlt := h.lt
  have HF : Hid (Fr no w (w.alloc (.cells #[.string e0, .slice none 0 0, .int .i64 0, .string e0, .int .i64 0, .int .i64 0, .slice none 0 0, .slice none 0 0] 53))) := f0
  have hsz : (w.alloc (.cells #[.string e0, .slice none 0 0, .int .i64 0, .string e0, .int .i64 0, .int .i64 0, .slice none 0 0, .slice none 0 0] 53)).heap.size = w.heap.size + 1 := size_alloc _ _
  have ra : RT _ p q s := h.new f0
  have HT : Hid (Tb (w.alloc (.cells #[.string e0, .slice none 0 0, .int .i64 0, .string e0, .int .i64 0, .int .i64 0, .slice none 0 0, .slice none 0 0] 53))) := T.kept f0
  have HRa : Hid (RT (w.alloc (.cells #[.string e0, .slice none 0 0, .int .i64 0, .string e0, .int .i64 0, .int .i64 0, .slice none 0 0, .slice none 0 0] 53)) p q s) := ra
  have HB : Hid (∀ w1, Fr (PQ p q) (w.alloc (.cells #[.string e0, .slice none 0 0, .int .i64 0, .string e0, .int .i64 0, .int .i64 0, .slice none 0 0, .slice none 0 0] 53)) w1 → w1.heap[w.heap.size]? = some (.cells #[.string e0, .slice none 0 0, .int .i64 0, .string e0, .int .i64 0, .int .i64 0, .slice none 0 0, .slice none 0 0] 53 (0, 0))) := fun w1 f1 => f1.heap hb0 (fun e => e.elim (fun e => by omega) (fun e => by omega))
  have HR : Hid (rMt s = (⟨(tkT 20 s).1, (rL 6 rTy (tkT 20 s).2).1, (rTy (rL 6 rTy (tkT 20 s).2).2).1, ((tkN 32 (rTy (rL 6 rTy (tkT 20 s).2).2).2).1 : Int), ((tkN 64 (tkN 32 (rTy (rL 6 rTy (tkT 20 s).2).2).2).2).1 : Int), (rCode (tkN 64 (tkN 32 (rTy (rL 6 rTy (tkT 20 s).2).2).2).2).2).1, (rL 16 rHd (rCode (tkN 64 (tkN 32 (rTy (rL 6 rTy (tkT 20 s).2).2).2).2).2).2).1⟩, (rL 16 rHd (rCode (tkN 64 (tkN 32 (rTy (rL 6 rTy (tkT 20 s).2).2).2).2).2).2).2)) := rMt_eq s
  generalize rMt s = r at *
  clear h f0 hb0 T
  go_enter Tryz.func24, Tryz.ntmps24
  go_wp2_with fail
  refine (rName_any _ p q s ra).mono ?_
  rintro x w1 ⟨rfl, r1, f1⟩
  generalize tkT 20 s = t1 at *
  obtain ⟨nm, t1⟩ := t1
  simp only [] at r1 HR ⊢
  go_wp2_with fail
  refine (readTy_list _ p q t1 r1 6 (by omega) rTy (fun w1 s1 h1 _ => readType_any w1 p q s1 h1)).mono ?_
  rintro x w2 ⟨v2, rfl, o2, r2, g2⟩
  have f2 := f1.trans g2 (fun _ _ e => e) (U := PQ p q) (fun _ _ e => e)
  clear f1 g2
  generalize rL 6 rTy t1 = t2 at *
  obtain ⟨ps, t2⟩ := t2
  simp only [] at r2 o2 HR ⊢
  obtain ⟨pa, pc, e2⟩ := o2.form
  subst e2
  go_wp2_with fail
  refine (readType_any _ p q t2 r2).mono ?_
  rintro x w3 ⟨rfl, r3, g3⟩
  have o3 := o2.beside r2 (by decide) (by decide) g3
  have f3 := f2.trans g3 (fun _ _ e => e) (U := PQ p q) (fun _ _ e => e)
  clear f2 g3 o2
  generalize rTy t2 = t3 at *
  obtain ⟨⟨k, c⟩, t3⟩ := t3
  simp only [] at r3 HR ⊢
  go_wp2_with fail
  refine (rCount_any _ p q t3 r3 32 (by omega) (by omega)).mono ?_
  rintro x w4 ⟨rfl, r4, g4⟩
  have o4 := o3.beside r3 (by decide) (by decide) g4
  have f4 := f3.trans g4 (fun _ _ e => e) (U := PQ p q) (fun _ _ e => e)
  clear f3 g4 o3
  generalize tkN 32 t3 = t4 at *
  obtain ⟨n4, t4⟩ := t4
  simp only [] at r4 HR ⊢
  go_wp2_with fail
  refine (rCount_any _ p q t4 r4 64 (by omega) (by omega)).mono ?_
  rintro x w5 ⟨rfl, r5, g5⟩
  have o5 := o4.beside r4 (by decide) (by decide) g5
  have f5 := f4.trans g5 (fun _ _ e => e) (U := PQ p q) (fun _ _ e => e)
  clear f4 g5 o4
  generalize tkN 64 t4 = t5 at *
  obtain ⟨n5, t5⟩ := t5
  simp only [] at r5 HR ⊢
  have T5 := HT.out.beside HRa.out f5
  go_wp2_with fail
  refine (readCode_any _ T5 p q t5 r5).mono ?_
  rintro x w6 ⟨v6, rfl, i6, r6, g6⟩
  have o6 := o5.beside r5 (by decide) (by decide) g6
  have f6 := f5.trans g6 (fun _ _ e => e) (U := PQ p q) (fun _ _ e => e)
  clear f5 g6 o5 T5
  generalize rCode t5 = t6 at *
  obtain ⟨cd, t6⟩ := t6
  simp only [] at r6 i6 HR ⊢
  obtain ⟨ca, cc, e6⟩ := i6.form
  subst e6
  go_wp2_with fail
  refine (readHd_list _ p q t6 r6 16 (by omega) rHd (fun w1 s1 h1 _ => readHandler_any w1 p q s1 h1)).mono ?_
  rintro x w7 ⟨v7, rfl, h7, r7, g7⟩
  have o7 := o6.beside r6 (by decide) (by decide) g7
  have i7 := i6.beside r6 g7
  have f7 := f6.trans g7 (fun _ _ e => e) (U := PQ p q) (fun _ _ e => e)
  clear f6 g7 o6 i6
  generalize rL 16 rHd t6 = t7 at *
  obtain ⟨hs, t7⟩ := t7
  simp only [] at r7 h7 HR ⊢
  obtain ⟨ha, hc, e7⟩ := h7.form
  subst e7
  have hB := HB.out w7 f7
  obtain ⟨⟨b0, b1, b2, b3, b4, b5, b6, b7⟩, bz0, bz1, bz2, bz3, bz4, bz5, bz6, bz7⟩ := cells8z hB
  go_wp2_with fail
  refine bodyPost_ret (results_24 _ w.heap.size _ _ _ _ _ _ _ _ (set_chain8 hB) _ rfl) rfl ?_
  have FF := fr_chain8 w7 w.heap.size (.string nm) (.slice pa ps.length pc) (.int .i64 k) (.string c) (.int .i64 (n4 : Int)) (.int .i64 (n5 : Int)) (.slice ca cd.length cc) (.slice ha hs.length hc)
  have hS : ∀ k, k = w.heap.size → ∀ cur t fz, w7.heap[k]? = some (.cells cur t fz) → t ≠ 46 ∧ t ≠ 57 ∧ t ≠ 59 := by
    rintro k rfl cur t fz e
    rw [hB] at e
    simp only [Option.some.injEq, Obj.cells.injEq] at e
    rw [← e.2.1]
    decide
  rw [HR.out]
  refine ⟨⟨nm, ⟨pa, ps.length, pc⟩, ⟨k, c⟩, (n4 : Int), (n5 : Int), ⟨ca, cd.length, cc⟩, ⟨ha, hs.length, hc⟩⟩, rfl, MtOwn.but (w := w7) ⟨rfl, rfl, rfl, rfl, o7, i7, h7⟩ FF hS, r7.away (fun k hk => ?_) FF, ?_⟩
  · subst hk
    have hl := r7.lt
    exact ⟨by omega, by omega, nob_block hB (nobs8 (nob_str _) (nob_sl _ _ _) (nob_int _) (nob_str _) (nob_int _) (nob_int _) (nob_sl _ _ _) (nob_sl _ _ _))⟩
  · exact (HF.out.trans f7 (fun _ _ f => f.elim) (fun _ _ e => e)).trans FF (fun _ _ e => e) (fun i hi e => by omega)

def RListMsAt (w0 : World) (p q : Nat) (most : Nat) (f : St → Mt × St) (s : St) (a : Act) (w : World) : Prop :=
  ∃ (k : Nat) (acc : List Mt) (s' : St) (u8 : Value) (u3 u4 u5 u6 u9 u10 u11 u12 u13 u14 u15 u16 u17 u18 u19 u20 u21 u22 u23 u24 u25 u26 u27 u28 u29 u30 u31 : Value),
    a = { tmps := #[.pointer (some ⟨p, 0, none⟩), .int .i64 (most : Int), .func (.func 24) #[] #[], u3, u4, u5, u6, .int .i64 (k : Int), u8, u9, u10, u11, u12, u13, u14, u15, u16, u17, u18, u19, u20, u21, u22, u23, u24, u25, u26, u27, u28, u29, u30, u31], defers := [] } ∧ k ≤ most ∧ acc.length ≤ k ∧ (∃ ls, OwnG elMs w u8 ls ∧ OwnAll w ls acc) ∧ (∀ i, u8.ownBlock = some i → w0.heap.size ≤ i) ∧
    RT w p q s' ∧ Fr (PQ p q) w0 w ∧ rLoop f (k - acc.length) acc s' = rL most f s

set_option maxRecDepth 100000 in
set_option maxHeartbeats 4000000 in
theorem readMs_list (w : World) (p q : Nat) (s : St) (h : RT w p q s) (most : Nat) (hmost : most ≤ 1000) (f : St → Mt × St)
    (READ : ∀ w1 s1, RT w1 p q s1 → Fr (PQ p q) w w1 → Calls Tryz.prog 24 #[.pointer (some ⟨p, 0, none⟩)] w1 fun x w' => ∃ y : Ms, x = .returned (.agg #[.string y.name, .slice y.p.a y.p.n y.p.c, .int .i64 y.ret.k, .string y.ret.c, .int .i64 y.lo, .int .i64 y.st, .slice y.c.a y.c.n y.c.c, .slice y.h.a y.h.n y.h.c]) ∧ MtOwn w' y (f s1).1 ∧ RT w' p q (f s1).2 ∧ Fr (PQ p q) w1 w') :
    Calls Tryz.prog 23 #[.pointer (some ⟨p, 0, none⟩), .int .i64 (most : Int), .func (.func 24) #[] #[]] w fun x w' => ∃ v, x = .returned v ∧ (∃ ls, OwnG elMs w' v ls ∧ OwnAll w' ls (rL most f s).1) ∧ RT w' p q (rL most f s).2 ∧ Fr (PQ p q) w w' := by
  have C := rCount_any w p q s h (most : Int) (by omega) (by omega)
  have hle := tkN_le most s
  have HRL : Hid (rL most f s = rLoop f (tkN (most : Int) s).1 [] (tkN (most : Int) s).2) := rfl
  have HREAD : Hid (∀ w1 s1, RT w1 p q s1 → Fr (PQ p q) w w1 → Calls Tryz.prog 24 #[.pointer (some ⟨p, 0, none⟩)] w1 fun x w' => ∃ y : Ms, x = .returned (.agg #[.string y.name, .slice y.p.a y.p.n y.p.c, .int .i64 y.ret.k, .string y.ret.c, .int .i64 y.lo, .int .i64 y.st, .slice y.c.a y.c.n y.c.c, .slice y.h.a y.h.n y.h.c]) ∧ MtOwn w' y (f s1).1 ∧ RT w' p q (f s1).2 ∧ Fr (PQ p q) w1 w') := READ
  have hlt0 := h.lt
  clear READ
  go_enter Tryz.func23, Tryz.ntmps23
  go_wp2_with fail
  refine wp_label_one 0 (RListMsAt w p q most f s) (fun a' _ => (intOf (a'.tmps.getD 7 undef)).toNat - slen (a'.tmps.getD 8 undef)) rfl ?_ ?_
  · intro K h0 hr hn'
    generalize tkN (most : Int) s = t at *
    obtain ⟨k, t⟩ := t
    simp only [] at C hle HRL
    go_wp2_with fail
    refine C.mono ?_
    rintro x w1 ⟨rfl, r1, f1⟩
    have MK := run_makeG okMs w1 k (by omega)
    have MK' : (Instr.makeSlice 26 (.int .i64 0) (.int .i64 (k : Int))).run Tryz.prog w1 = .ok (.slice (some ⟨w1.heap.size, 0, none⟩) 0 k) (w1.alloc (.cells (madeCells elMs.z.cells (k * 8)) 53)) := MK
    have OM : OwnG elMs (w1.alloc (.cells (madeCells elMs.z.cells (k * 8)) 53)) (.slice (some ⟨w1.heap.size, 0, none⟩) 0 k) [] := ownG_made okMs w1 k (by unfold maxLen; omega)
    have fa : Fr no w1 (w1.alloc (.cells (madeCells elMs.z.cells (k * 8)) 53)) := (Fr.refl no w1).alloc _ _
    clear MK
    generalize w1.alloc (.cells (madeCells elMs.z.cells (k * 8)) 53) = W at MK' OM fa
    go_wp2_with fail
    go_step3
    rename_i hk
    refine hk _ _ (h0 _ _ ⟨k, [], t, .slice (some ⟨w1.heap.size, 0, none⟩) 0 k, _, _, _, _, _, _, _, _, _, _, _, _, _, _, _, _, _, _, _, _, _, _, _, _, _, _, _, rfl, hle, Nat.zero_le _, ⟨[], OM, rfl, fun i s m h => by simp at h⟩, ?_, r1.new fa, f1.trans fa (fun _ _ e => e) (fun _ _ f => f.elim), ?_⟩)
    · intro i hi
      simp only [Value.ownBlock, Option.some.injEq] at hi
      subst hi
      exact f1.size
    · rw [HRL.out]; rfl
  · clear C hle HRL
    rintro a' w' ⟨k, acc, s', u8, u3, u4, u5, u6, u9, u10, u11, u12, u13, u14, u15, u16, u17, u18, u19, u20, u21, u22, u23, u24, u25, u26, u27, u28, u29, u30, u31, rfl, hk, hacc, ⟨ls, ho, hal⟩, ho0, hr1, hf1, hloop⟩ K hj hr hn'
    have HL : Hid (rLoop f (k - acc.length) acc s' = rL most f s) := hloop
    clear hloop
    obtain ⟨o, cap, eo⟩ := ho.form
    rw [hal.1] at eo
    obtain ⟨c0, c1, z1⟩ := RS.cells hr1
    by_cases hend : acc.length = k
    · have E : Hid (rL most f s = (acc, s')) := by show _ = _; rw [← HL.out, show k - acc.length = 0 by omega]; rfl
      have hq : ((acc.length : Int) == (k : Int)) = true := by simp; omega
      subst eo
      clear hend
      go_wp2_with fail
      refine hr _ _ ?_
      go_ret
      rw [E.out]
      exact ⟨_, rfl, ⟨ls, ho, hal⟩, hr1, hf1⟩
    · have hq : ((acc.length : Int) == (k : Int)) = false := by simp; omega
      have hstep : rLoop f (k - acc.length) acc s' = if s'.2 ≠ 0 then (acc, s') else rLoop f (k - (acc.length + 1)) (acc ++ [(f s').1]) (f s').2 := by
        rw [show k - acc.length = (k - (acc.length + 1)) + 1 by omega]
        rfl
      rw [HL.out] at hstep
      obtain ⟨l', e'⟩ := s'
      simp only [] at hstep c0 c1
      by_cases he : e' = 0
      · subst he
        rw [if_neg (by simp)] at hstep
        have HS : Hid (rL most f s = rLoop f (k - (acc.length + 1)) (acc ++ [(f (l', 0)).1]) (f (l', 0)).2) := hstep
        have R := HREAD.out w' (l', 0) hr1 hf1
        clear hstep
        generalize f (l', 0) = t at *
        obtain ⟨x, t⟩ := t
        simp only [] at R HS
        subst eo
        go_wp2_with fail
        refine R.mono ?_
        rintro x' w2 ⟨y, rfl, hy, r2, g2⟩
        have o2 := ho.beside hr1 (by decide) (by decide) g2
        have fA : Fr no w2 (w2.alloc (.cells #[.string y.name, .slice y.p.a y.p.n y.p.c, .int .i64 y.ret.k, .string y.ret.c, .int .i64 y.lo, .int .i64 y.st, .slice y.c.a y.c.n y.c.c, .slice y.h.a y.h.n y.h.c] 53)) := (Fr.refl no w2).alloc _ _
        have o3 := o2.kept fA (fun _ _ f => f)
        have r3 := r2.new fA
        have hS : Src Tryz.prog 8 26 (.slice (some ⟨w2.heap.size, 0, none⟩) 1 1) ([y] : List Ms).length (cg elMs [y]) (w2.alloc (.cells #[.string y.name, .slice y.p.a y.p.n y.p.c, .int .i64 y.ret.k, .string y.ret.c, .int .i64 y.lo, .int .i64 y.st, .slice y.c.a y.c.n y.c.c, .slice y.h.a y.h.n y.h.c] 53)) := srcG_one okMs w2 y
        have hbb : ls.length + ([y] : List Ms).length ≤ 1000000 := by have := hal.1; simp; omega
        have f3 : Fr (PQ p q) w (w2.alloc (.cells #[.string y.name, .slice y.p.a y.p.n y.p.c, .int .i64 y.ret.k, .string y.ret.c, .int .i64 y.lo, .int .i64 y.st, .slice y.c.a y.c.n y.c.c, .slice y.h.a y.h.n y.h.c] 53)) := (hf1.trans g2 (fun _ _ e => e) (fun _ _ e => e)).trans fA (fun _ _ e => e) (fun _ _ f => f.elim)
        have B : Hid (∀ v4 w4, Sp no (.slice o acc.length cap) (w2.alloc (.cells #[.string y.name, .slice y.p.a y.p.n y.p.c, .int .i64 y.ret.k, .string y.ret.c, .int .i64 y.lo, .int .i64 y.st, .slice y.c.a y.c.n y.c.c, .slice y.h.a y.h.n y.h.c] 53)) v4 w4 → RT w4 p q t ∧ Fr (PQ p q) w w4 ∧ (∀ i, v4.ownBlock = some i → w.heap.size ≤ i) ∧ OwnAll w4 (ls ++ [y]) (acc ++ [x])) := by
          intro v4 w4 s4
          have hS4 : ∀ k, (no k ∨ (Value.slice o acc.length cap).ownBlock = some k) → k ≠ p ∧ k ≠ q ∧ ∀ cur t fz, (w2.alloc (.cells #[.string y.name, .slice y.p.a y.p.n y.p.c, .int .i64 y.ret.k, .string y.ret.c, .int .i64 y.lo, .int .i64 y.st, .slice y.c.a y.c.n y.c.c, .slice y.h.a y.h.n y.h.c] 53)).heap[k]? = some (.cells cur t fz) → ∀ u ∈ cur.toList, nob u := by
            rintro k (hk | hk)
            · exact hk.elim
            · have hk0 := ho0 k hk
              exact ⟨by omega, by omega, fun cur t fz hc => o3.2 k cur t fz hk hc⟩
          refine ⟨RT.away r3 hS4 s4.1, f3.trans s4.1 (fun _ _ e => e) (fun i hi e => e.elim (fun e => e.elim) (fun e => by have := ho0 i e; omega)), fun i hi => ?_, ?_⟩
          · rcases Nat.lt_or_ge i (w2.alloc (.cells #[.string y.name, .slice y.p.a y.p.n y.p.c, .int .i64 y.ret.k, .string y.ret.c, .int .i64 y.lo, .int .i64 y.st, .slice y.c.a y.c.n y.c.c, .slice y.h.a y.h.n y.h.c] 53)).heap.size with hh | hh
            · exact ho0 i (s4.2 i hh hi)
            · exact Nat.le_trans f3.size hh
          · have hT : ∀ k, (no k ∨ (Value.slice o acc.length cap).ownBlock = some k) → ∀ cur t fz, (w2.alloc (.cells #[.string y.name, .slice y.p.a y.p.n y.p.c, .int .i64 y.ret.k, .string y.ret.c, .int .i64 y.lo, .int .i64 y.st, .slice y.c.a y.c.n y.c.c, .slice y.h.a y.h.n y.h.c] 53)).heap[k]? = some (.cells cur t fz) → t ≠ 46 ∧ t ≠ 57 ∧ t ≠ 59 := by
              rintro k (hk | hk) cur t fz e
              · exact hk.elim
              · obtain ⟨cur', e'⟩ := o3.tag hk
                rw [e'] at e
                simp only [Option.some.injEq, Obj.cells.injEq] at e
                rw [← e.2.1]
                decide
            exact (((hal.beside hr1 g2).but fA (fun _ f => f.elim)).snoc (hy.but fA (fun _ f => f.elim))).but s4.1 hT
        clear R o2 hf1 fA f3 g2 hr1
        go_wp2_with (at_builtin; refine wpList_apdG okMs _ rfl rfl (.tmp 26) (.tmp 30) rfl _ ls rfl o3 _ rfl [y] hS (by simp) hbb ?_; intro v4 w4 o4 s4; have b4 := B.out v4 w4 s4; obtain ⟨oo, cc, e4⟩ := o4.form; rw [List.length_append] at e4; subst e4)
        go_step3
        refine hj _ _ ⟨k, acc ++ [x], t, _, _, _, _, _, _, _, _, _, _, _, _, _, _, _, _, _, _, _, _, _, _, _, _, _, _, _, _, rfl, hk, by simp; omega, ⟨_, o4, b4.2.2.2⟩, b4.2.2.1, b4.1, b4.2.1, ?_⟩ ?_
        · rw [HS.out, List.length_append]; rfl
        · have := hal.1; simp [intOf, slen]; omega
      · rw [if_pos he] at hstep
        have E : Hid (rL most f s = (acc, (l', e'))) := hstep
        have he' : ((e' : Int) == 0) = false := beq_eq_false_iff_ne.2 (by omega)
        subst eo
        clear hstep
        go_wp2_with fail
        refine hr _ _ ?_
        go_ret
        rw [E.out]
        exact ⟨_, rfl, ⟨ls, ho, hal⟩, hr1, hf1⟩
end Go.Proofs.YthncdbobjeeeaaaGreatDoor
