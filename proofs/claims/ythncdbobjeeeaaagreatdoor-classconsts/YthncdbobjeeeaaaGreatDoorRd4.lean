/- The class reader: fields, handlers, code, the mark. -/
import Derived.Test.YthncdbobjeeeaaaGreatDoorRd3
namespace Go.Proofs.YthncdbobjeeeaaaGreatDoor
open Go.ChangeShapes Go.WideShapes Go.ChangeAt Go.RowKit

/-- A field, read. -/
def rFd (s : List Nat × Nat) : Fd × (List Nat × Nat) := (⟨(tkT 20 s).1, (rTy (tkT 20 s).2).1, (tkF (rTy (tkT 20 s).2).2).1⟩, (tkF (rTy (tkT 20 s).2).2).2)
/-- A handler, read. -/
def rHd (s : List Nat × Nat) : Hd × (List Nat × Nat) :=
  let a := tkN 200 s
  let b := tkN 200 a.2
  let c := tkN 200 b.2
  let d := tkN 128 c.2
  let e := tkN 6 d.2
  (⟨(a.1 : Int), (b.1 : Int), (c.1 : Int), (d.1 : Int) - 1, (e.1 : Int)⟩, e.2)

set_option maxRecDepth 100000 in
set_option maxHeartbeats 2000000 in
theorem readField_any (w : World) (p q : Nat) (s : List Nat × Nat) (h : RT w p q s) :
    Calls Tryz.prog 22 #[.pointer (some ⟨p, 0, none⟩)] w fun x w' => x = .returned (.agg #[.string (rFd s).1.name, .int .i64 (rFd s).1.ty.k, .string (rFd s).1.ty.c, .bool (rFd s).1.vol]) ∧ RT w' p q (rFd s).2 ∧ Fr (PQ p q) w w' := by
  have f0 : Fr no w (w.alloc (.cells #[.string e0, .int .i64 0, .string e0, .bool false] 48)) := (Fr.refl no w).alloc _ _
  have hb0 := heap_alloc_new w (.cells #[.string e0, .int .i64 0, .string e0, .bool false] 48)
  have hlt := h.lt
  have HF : Hid (Fr no w (w.alloc (.cells #[.string e0, .int .i64 0, .string e0, .bool false] 48))) := f0
  have hsz : (w.alloc (.cells #[.string e0, .int .i64 0, .string e0, .bool false] 48)).heap.size = w.heap.size + 1 := size_alloc _ _
  have ra : RT _ p q s := h.new f0
  have HB : Hid (∀ w1, Fr (PQ p q) (w.alloc (.cells #[.string e0, .int .i64 0, .string e0, .bool false] 48)) w1 → w1.heap[w.heap.size]? = some (.cells #[.string e0, .int .i64 0, .string e0, .bool false] 48 (0, 0))) := fun w1 f1 => f1.heap hb0 (fun e => e.elim (fun e => by omega) (fun e => by omega))
  have HR : Hid (rFd s = (⟨(tkT 20 s).1, (rTy (tkT 20 s).2).1, (tkF (rTy (tkT 20 s).2).2).1⟩, (tkF (rTy (tkT 20 s).2).2).2)) := rfl
  generalize rFd s = r at *
  clear h f0 hb0
  go_enter Tryz.func22, Tryz.ntmps22
  go_wp2_with fail
  refine (rName_any _ p q s ra).mono ?_
  rintro x w1 ⟨rfl, r1, g1⟩
  have f1 := g1
  clear g1
  generalize tkT 20 s = t1 at *
  obtain ⟨nm, t1⟩ := t1
  simp only [] at r1 HR ⊢
  go_wp2_with fail
  refine (readType_any _ p q t1 r1).mono ?_
  rintro x w2 ⟨rfl, r2, g2⟩
  have f2 := f1.trans g2 (fun _ _ e => e) (U := PQ p q) (fun _ _ e => e)
  clear f1
  clear g2
  generalize rTy t1 = t2 at *
  obtain ⟨⟨k, c⟩, t2⟩ := t2
  simp only [] at r2 HR ⊢
  go_wp2_with fail
  refine (rFlag_any _ p q t2 r2).mono ?_
  rintro x w3 ⟨rfl, r3, g3⟩
  have f3 := f2.trans g3 (fun _ _ e => e) (U := PQ p q) (fun _ _ e => e)
  clear f2
  clear g3
  generalize tkF t2 = t3 at *
  obtain ⟨b, t3⟩ := t3
  simp only [] at r3 HR ⊢
  have hB := HB.out w3 f3
  obtain ⟨⟨b0, b1, b2, b3⟩, bz0, bz1, bz2, bz3⟩ := cells4z hB
  go_wp2_with fail
  refine bodyPost_ret (results_22 _ w.heap.size _ _ _ _ (set_chain4 hB) _ rfl) rfl ?_
  have FF := fr_chain4 w3 w.heap.size (.string nm) (.int .i64 k) (.string c) (.bool b)
  rw [HR.out]
  refine ⟨rfl, r3.away (fun k hk => ?_) FF, ?_⟩
  · subst hk
    have hl := r3.lt
    exact ⟨by omega, by omega, nob_block hB (nobs4 (nob_str _) (nob_int _) (nob_str _) (nob_bool _))⟩
  · exact (HF.out.trans f3 (fun _ _ f => f.elim) (fun _ _ e => e)).trans FF (fun _ _ e => e) (fun i hi e => by omega)

theorem tkN_le (most : Nat) (s : List Nat × Nat) : (tkN (most : Int) s).1 ≤ most := by
  unfold tkN
  split
  · by_cases h : (ct s.1 (most : Int)).2.1 = 0
    · have := (ct_le s.1 (most : Int) h).2.2
      simp only []
      omega
    · unfold ct at h ⊢
      split at h
      · rename_i hx
        rw [if_pos hx]
        have := rd_err s.1 0 0 hx
        rw [this]
        simp
      · rename_i hx
        rw [if_neg hx]
        split at h
        · rename_i hy
          rw [if_pos hy]
          simp
        · exact absurd h (by simpa using hx)
  · simp

set_option maxRecDepth 100000 in
set_option maxHeartbeats 2000000 in
theorem readHandler_any (w : World) (p q : Nat) (s : List Nat × Nat) (h : RT w p q s) :
    Calls Tryz.prog 73 #[.pointer (some ⟨p, 0, none⟩)] w fun x w' => x = .returned (.agg #[.int .i64 (rHd s).1.fr, .int .i64 (rHd s).1.to, .int .i64 (rHd s).1.tg, .int .i64 (rHd s).1.cl, .int .i64 (rHd s).1.dp]) ∧ RT w' p q (rHd s).2 ∧ Fr (PQ p q) w w' := by
  have f0 : Fr no w (w.alloc (.cells #[.int .i64 0, .int .i64 0, .int .i64 0, .int .i64 0, .int .i64 0] 59)) := (Fr.refl no w).alloc _ _
  have hb0 := heap_alloc_new w (.cells #[.int .i64 0, .int .i64 0, .int .i64 0, .int .i64 0, .int .i64 0] 59)
  have hlt := h.lt
  have HF : Hid (Fr no w (w.alloc (.cells #[.int .i64 0, .int .i64 0, .int .i64 0, .int .i64 0, .int .i64 0] 59))) := f0
  have hsz : (w.alloc (.cells #[.int .i64 0, .int .i64 0, .int .i64 0, .int .i64 0, .int .i64 0] 59)).heap.size = w.heap.size + 1 := size_alloc _ _
  have ra : RT _ p q s := h.new f0
  have HB : Hid (∀ w1, Fr (PQ p q) (w.alloc (.cells #[.int .i64 0, .int .i64 0, .int .i64 0, .int .i64 0, .int .i64 0] 59)) w1 → w1.heap[w.heap.size]? = some (.cells #[.int .i64 0, .int .i64 0, .int .i64 0, .int .i64 0, .int .i64 0] 59 (0, 0))) := fun w1 f1 => f1.heap hb0 (fun e => e.elim (fun e => by omega) (fun e => by omega))
  have HR : Hid (rHd s = (⟨((tkN 200 s).1 : Int), ((tkN 200 (tkN 200 s).2).1 : Int), ((tkN 200 (tkN 200 (tkN 200 s).2).2).1 : Int), ((tkN 128 (tkN 200 (tkN 200 (tkN 200 s).2).2).2).1 : Int) - 1, ((tkN 6 (tkN 128 (tkN 200 (tkN 200 (tkN 200 s).2).2).2).2).1 : Int)⟩, (tkN 6 (tkN 128 (tkN 200 (tkN 200 (tkN 200 s).2).2).2).2).2)) := rfl
  generalize rHd s = r at *
  clear h f0 hb0
  go_enter Tryz.func73, Tryz.ntmps73
  go_wp2_with fail
  refine (rCount_any _ p q s ra 200 (by omega) (by omega)).mono ?_
  rintro x w1 ⟨rfl, r1, g1⟩
  have f1 := g1
  clear g1
  generalize tkN 200 s = t1 at *
  obtain ⟨n1, t1⟩ := t1
  simp only [] at r1 HR ⊢
  go_wp2_with fail
  refine (rCount_any _ p q t1 r1 200 (by omega) (by omega)).mono ?_
  rintro x w2 ⟨rfl, r2, g2⟩
  have f2 := f1.trans g2 (fun _ _ e => e) (U := PQ p q) (fun _ _ e => e)
  clear f1
  clear g2
  generalize tkN 200 t1 = t2 at *
  obtain ⟨n2, t2⟩ := t2
  simp only [] at r2 HR ⊢
  go_wp2_with fail
  refine (rCount_any _ p q t2 r2 200 (by omega) (by omega)).mono ?_
  rintro x w3 ⟨rfl, r3, g3⟩
  have f3 := f2.trans g3 (fun _ _ e => e) (U := PQ p q) (fun _ _ e => e)
  clear f2
  clear g3
  generalize tkN 200 t2 = t3 at *
  obtain ⟨n3, t3⟩ := t3
  simp only [] at r3 HR ⊢
  go_wp2_with fail
  refine (rCount_any _ p q t3 r3 128 (by omega) (by omega)).mono ?_
  rintro x w4 ⟨rfl, r4, g4⟩
  have f4 := f3.trans g4 (fun _ _ e => e) (U := PQ p q) (fun _ _ e => e)
  clear f3
  clear g4
  have h128 := tkN_le 128 t3
  generalize tkN 128 t3 = t4 at *
  obtain ⟨n4, t4⟩ := t4
  simp only [] at r4 HR ⊢
  simp only [] at h128
  have hw4 : IntKind.i64.wrap ((n4 : Int) + -1) = (n4 : Int) - 1 := by simp [IntKind.wrap, IntKind.signed, IntKind.bits]; omega
  go_wp2_with fail
  refine (rCount_any _ p q t4 r4 6 (by omega) (by omega)).mono ?_
  rintro x w5 ⟨rfl, r5, g5⟩
  have f5 := f4.trans g5 (fun _ _ e => e) (U := PQ p q) (fun _ _ e => e)
  clear f4
  clear g5
  generalize tkN 6 t4 = t5 at *
  obtain ⟨n5, t5⟩ := t5
  simp only [] at r5 HR ⊢
  have hB := HB.out w5 f5
  obtain ⟨⟨b0, b1, b2, b3, b4⟩, bz0, bz1, bz2, bz3, bz4⟩ := cells5z hB
  go_wp2_with fail
  refine bodyPost_ret (results_73 _ w.heap.size _ _ _ _ _ (set_chain5 hB) _ rfl) rfl ?_
  have FF := fr_chain5 w5 w.heap.size (.int .i64 (n1 : Int)) (.int .i64 (n2 : Int)) (.int .i64 (n3 : Int)) (.int .i64 ((n4 : Int) - 1)) (.int .i64 (n5 : Int))
  rw [HR.out]
  refine ⟨rfl, r5.away (fun k hk => ?_) FF, ?_⟩
  · subst hk
    have hl := r5.lt
    exact ⟨by omega, by omega, nob_block hB (nobs5 (nob_int _) (nob_int _) (nob_int _) (nob_int _) (nob_int _))⟩
  · exact (HF.out.trans f5 (fun _ _ f => f.elim) (fun _ _ e => e)).trans FF (fun _ _ e => e) (fun i hi e => by omega)
end Go.Proofs.YthncdbobjeeeaaaGreatDoor
