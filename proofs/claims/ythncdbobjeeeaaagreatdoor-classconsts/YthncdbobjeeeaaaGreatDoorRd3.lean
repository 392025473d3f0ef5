/- The class reader: constants. -/
import Derived.Test.YthncdbobjeeeaaaGreatDoorRd2
namespace Go.Proofs.YthncdbobjeeeaaaGreatDoor
open Go.ChangeShapes Go.WideShapes Go.ChangeAt Go.RowKit

/-- A constant, read. -/
def rCs (s : List Nat × Nat) : Cs × (List Nat × Nat) :=
  if (tkB s).1 = 1 then (⟨1, (tkI (tkB s).2).1, 0, 0, e0, e0⟩, (tkI (tkB s).2).2)
  else if (tkB s).1 = 2 then (⟨2, 0, (tkC (tkB s).2).1.1, (tkC (tkB s).2).1.2, e0, e0⟩, (tkC (tkB s).2).2)
  else if (tkB s).1 = 3 then (⟨3, 0, 0, 0, (tkT 20 (tkB s).2).1, e0⟩, (tkT 20 (tkB s).2).2)
  else if (tkB s).1 = 4 ∨ (tkB s).1 = 5 then (⟨((tkB s).1 : Int), 0, 0, 0, (tkT 20 (tkB s).2).1, (tkT 20 (tkT 20 (tkB s).2).2).1⟩, (tkT 20 (tkT 20 (tkB s).2).2).2)
  else (⟨((tkB s).1 : Int), 0, 0, 0, e0, e0⟩, (tkB s).2)

theorem run_store_cx (a : Addr) (x y : Nat) (w : World) : (store a (.complex .f64 x y)).run Tryz.prog w = stored Tryz.prog w a (.complex .f64 x y) .plain := run_store Tryz.prog w a _ _ rfl

theorem fr_one (w : World) (A j : Nat) (v : Value) : Fr (fun k => k = A) w (w.setCell ⟨A, j, none⟩ v) := (Fr.refl (fun k => k = A) w).setCell (p := ⟨A, j, none⟩) (fun _ => rfl) v

theorem set_at {w : World} {A : Nat} {cur : Array Value} {t : TypeId} {fz : Nat × Nat} (h : w.heap[A]? = some (.cells cur t fz)) (j : Nat) (v : Value) : (w.setCell ⟨A, j, none⟩ v).heap[A]? = some (.cells (cur.setIfInBounds j v) t fz) := by
  unfold World.setCell
  rw [Array.getElem?_modify, if_pos rfl, h]
  rfl

/-- What the reader sees of a block that holds no byte. -/
theorem nob_block {w : World} {A : Nat} {cur : Array Value} {t : TypeId} {fz : Nat × Nat} (h : w.heap[A]? = some (.cells cur t fz)) (hn : ∀ u ∈ cur.toList, nob u) : ∀ cur' t' fz', w.heap[A]? = some (.cells cur' t' fz') → ∀ u ∈ cur'.toList, nob u := by
  intro cur' t' fz' hc
  rw [h] at hc
  simp only [Option.some.injEq, Obj.cells.injEq] at hc
  rw [← hc.1]
  exact hn

set_option maxRecDepth 100000 in
set_option maxHeartbeats 4000000 in
theorem readConst_any (w : World) (p q : Nat) (s : List Nat × Nat) (h : RT w p q s) :
    Calls Tryz.prog 20 #[.pointer (some ⟨p, 0, none⟩)] w fun x w' => x = .returned (.agg #[.int .i64 (rCs s).1.k, .int .i64 (rCs s).1.n, .complex .f64 (rCs s).1.re (rCs s).1.im, .string (rCs s).1.c, .string (rCs s).1.m]) ∧ RT w' p q (rCs s).2 ∧ Fr (PQ p q) w w' := by
  have f0 : Fr no w (w.alloc (.cells #[.int .i64 0, .int .i64 0, .complex .f64 0 0, .string e0, .string e0] 39)) := (Fr.refl no w).alloc _ _
  have hb0 := heap_alloc_new w (.cells #[.int .i64 0, .int .i64 0, .complex .f64 0 0, .string e0, .string e0] 39)
  have K := rByte_any _ p q s (h.new f0)
  have HR : Hid (rCs s = if (tkB s).1 = 1 then (⟨1, (tkI (tkB s).2).1, 0, 0, e0, e0⟩, (tkI (tkB s).2).2)
    else if (tkB s).1 = 2 then (⟨2, 0, (tkC (tkB s).2).1.1, (tkC (tkB s).2).1.2, e0, e0⟩, (tkC (tkB s).2).2)
    else if (tkB s).1 = 3 then (⟨3, 0, 0, 0, (tkT 20 (tkB s).2).1, e0⟩, (tkT 20 (tkB s).2).2)
    else if (tkB s).1 = 4 ∨ (tkB s).1 = 5 then (⟨((tkB s).1 : Int), 0, 0, 0, (tkT 20 (tkB s).2).1, (tkT 20 (tkT 20 (tkB s).2).2).1⟩, (tkT 20 (tkT 20 (tkB s).2).2).2)
    else (⟨((tkB s).1 : Int), 0, 0, 0, e0, e0⟩, (tkB s).2)) := rfl
  have hlt := h.lt
  have hc256 := tkB_lt h
  have HF : Hid (Fr no w (w.alloc (.cells #[.int .i64 0, .int .i64 0, .complex .f64 0 0, .string e0, .string e0] 39))) := f0
  have hsz : (w.alloc (.cells #[.int .i64 0, .int .i64 0, .complex .f64 0 0, .string e0, .string e0] 39)).heap.size = w.heap.size + 1 := size_alloc _ _
  generalize rCs s = r at *
  generalize tkB s = t at *
  obtain ⟨c, t⟩ := t
  simp only [] at K HR hc256
  have HB : Hid (∀ w1, Fr (PQ p q) (w.alloc (.cells #[.int .i64 0, .int .i64 0, .complex .f64 0 0, .string e0, .string e0] 39)) w1 → w1.heap[w.heap.size]? = some (.cells #[.int .i64 0, .int .i64 0, .complex .f64 0 0, .string e0, .string e0] 39 (0, 0)) ∧ w.heap.size < w1.heap.size) := fun w1 f1 =>
    ⟨f1.heap hb0 (fun e => e.elim (fun e => by omega) (fun e => by omega)), by have := f1.size; omega⟩
  have hwc : IntKind.i64.wrap (c : Int) = (c : Int) := by simp [IntKind.wrap, IntKind.signed, IntKind.bits]; omega
  have O := fun w1 => ownParts_any w1 (c : Int)
  have hstc := run_store_cx
  clear h f0 hb0
  by_cases hk : c = 1
  · have hO : own (c : Int) = 1 := by unfold own; rw [if_pos (by omega)]
    rw [hO] at O
    rw [if_pos hk] at HR
    clear hO
    subst hk
    go_enter Tryz.func20, Tryz.ntmps20
    go_wp2_with fail
    refine K.mono ?_
    rintro x w1 ⟨rfl, r1, f1⟩
    have hlt1 := r1.lt
    obtain ⟨hB1, hBs⟩ := HB.out w1 f1
    have HF1 : Hid (Fr (PQ p q) w w1) := HF.out.trans f1 (fun _ _ f => f.elim) (fun _ _ e => e)
    have hAB : ¬ w1.heap.size = w.heap.size := by omega
    have fa : Fr no w1 (w1.alloc (.cells #[.int .i64 ((1 : Nat) : Int), .int .i64 0, .complex .f64 0 0, .string e0, .string e0] 39)) := (Fr.refl no w1).alloc _ _
    have hA0 := heap_alloc_new w1 (.cells #[.int .i64 ((1 : Nat) : Int), .int .i64 0, .complex .f64 0 0, .string e0, .string e0] 39)
    have ra : RT _ p q t := r1.new fa
    have hB2 := fa.heap hB1 (fun f => f)
    have HFa : Hid (Fr no w1 (w1.alloc (.cells #[.int .i64 ((1 : Nat) : Int), .int .i64 0, .complex .f64 0 0, .string e0, .string e0] 39))) := fa
    clear fa f1 hB1
    go_wp2_with fail
    refine (O _).mono ?_
    rintro x w1x ⟨rfl, rfl⟩
    go_wp2_with fail
    refine (rInt_any _ p q t ra).mono ?_
    rintro x w2 ⟨rfl, r2, f2⟩
    have hA3 := f2.heap hA0 (fun e => e.elim (fun e => by omega) (fun e => by omega))
    have hB3 := f2.heap hB2 (fun e => e.elim (fun e => by omega) (fun e => by omega))
    generalize tkI t = r3 at *
    obtain ⟨nm, t3⟩ := r3
    simp only [] at r2 HR ⊢
    obtain ⟨⟨a0, a1, a2, a3, a4⟩, az0, az1, az2, az3, az4⟩ := cells5z hA3
    obtain ⟨⟨b0, b1, b2, b3, b4⟩, bz0, bz1, bz2, bz3, bz4⟩ := cells5z hB3
    clear hA0 hB2
    go_wp2_with fail
    have g1 : (w2.setCell ⟨w1.heap.size, 1, none⟩ (.int .i64 nm)).heap[w.heap.size]? = some (.cells #[.int .i64 0, .int .i64 0, .complex .f64 0 0, .string e0, .string e0] 39 (0, 0)) := by
      rw [Below.heap_setCell w2 ⟨w1.heap.size, 1, none⟩ _ w.heap.size (by simp; omega)]
      exact hB3
    refine bodyPost_ret (results_20 _ w.heap.size _ _ _ _ _ (set_chain5 g1) _ rfl) rfl ?_
    have FF := (fr_one w2 w1.heap.size 1 (.int .i64 nm)).trans (fr_chain5 (w2.setCell ⟨w1.heap.size, 1, none⟩ (.int .i64 nm)) w.heap.size (.int .i64 1) (.int .i64 nm) (.complex .f64 0 0) (.string e0) (.string e0)) (U := fun k => k = w1.heap.size ∨ k = w.heap.size) (fun _ _ e => .inl e) (fun _ _ e => .inr e)
    rw [HR.out]
    refine ⟨rfl, r2.away (fun k hk => ?_) FF, ?_⟩
    · rcases hk with rfl | rfl
      · exact ⟨by omega, by omega, nob_block hA3 (nobs5 (nob_int _) (nob_int _) (nob_cx _ _) (nob_str _) (nob_str _))⟩
      · exact ⟨by omega, by omega, nob_block hB3 (nobs5 (nob_int _) (nob_int _) (nob_cx _ _) (nob_str _) (nob_str _))⟩
    · exact ((HF1.out.trans HFa.out (fun _ _ e => e) (fun _ _ f => f.elim)).trans f2 (fun _ _ e => e) (fun _ _ e => e)).trans FF (fun _ _ e => e) (fun i hi e => by have := HF1.out.size; rcases e with e | e <;> omega)
  have k1 := hk
  clear hk
  by_cases hk : c = 2
  · have hO : own (c : Int) = 2 := by unfold own; rw [if_neg (by omega), if_pos (by omega)]
    rw [hO] at O
    rw [if_neg k1, if_pos hk] at HR
    clear hO
    subst hk
    go_enter Tryz.func20, Tryz.ntmps20
    go_wp2_with fail
    refine K.mono ?_
    rintro x w1 ⟨rfl, r1, f1⟩
    have hlt1 := r1.lt
    obtain ⟨hB1, hBs⟩ := HB.out w1 f1
    have HF1 : Hid (Fr (PQ p q) w w1) := HF.out.trans f1 (fun _ _ f => f.elim) (fun _ _ e => e)
    have hAB : ¬ w1.heap.size = w.heap.size := by omega
    have fa : Fr no w1 (w1.alloc (.cells #[.int .i64 ((2 : Nat) : Int), .int .i64 0, .complex .f64 0 0, .string e0, .string e0] 39)) := (Fr.refl no w1).alloc _ _
    have hA0 := heap_alloc_new w1 (.cells #[.int .i64 ((2 : Nat) : Int), .int .i64 0, .complex .f64 0 0, .string e0, .string e0] 39)
    have ra : RT _ p q t := r1.new fa
    have hB2 := fa.heap hB1 (fun f => f)
    have HFa : Hid (Fr no w1 (w1.alloc (.cells #[.int .i64 ((2 : Nat) : Int), .int .i64 0, .complex .f64 0 0, .string e0, .string e0] 39))) := fa
    clear fa f1 hB1
    go_wp2_with fail
    refine (O _).mono ?_
    rintro x w1x ⟨rfl, rfl⟩
    go_wp2_with fail
    refine (rCplx_any _ p q t ra).mono ?_
    rintro x w2 ⟨rfl, r2, f2⟩
    have hA3 := f2.heap hA0 (fun e => e.elim (fun e => by omega) (fun e => by omega))
    have hB3 := f2.heap hB2 (fun e => e.elim (fun e => by omega) (fun e => by omega))
    generalize tkC t = r3 at *
    obtain ⟨⟨nm, nm2⟩, t3⟩ := r3
    simp only [] at r2 HR ⊢
    obtain ⟨⟨a0, a1, a2, a3, a4⟩, az0, az1, az2, az3, az4⟩ := cells5z hA3
    obtain ⟨⟨b0, b1, b2, b3, b4⟩, bz0, bz1, bz2, bz3, bz4⟩ := cells5z hB3
    clear hA0 hB2
    go_wp2_with fail
    have g1 : (w2.setCell ⟨w1.heap.size, 2, none⟩ (.complex .f64 nm nm2)).heap[w.heap.size]? = some (.cells #[.int .i64 0, .int .i64 0, .complex .f64 0 0, .string e0, .string e0] 39 (0, 0)) := by
      rw [Below.heap_setCell w2 ⟨w1.heap.size, 2, none⟩ _ w.heap.size (by simp; omega)]
      exact hB3
    refine bodyPost_ret (results_20 _ w.heap.size _ _ _ _ _ (set_chain5 g1) _ rfl) rfl ?_
    have FF := (fr_one w2 w1.heap.size 2 (.complex .f64 nm nm2)).trans (fr_chain5 (w2.setCell ⟨w1.heap.size, 2, none⟩ (.complex .f64 nm nm2)) w.heap.size (.int .i64 2) (.int .i64 0) (.complex .f64 nm nm2) (.string e0) (.string e0)) (U := fun k => k = w1.heap.size ∨ k = w.heap.size) (fun _ _ e => .inl e) (fun _ _ e => .inr e)
    rw [HR.out]
    refine ⟨rfl, r2.away (fun k hk => ?_) FF, ?_⟩
    · rcases hk with rfl | rfl
      · exact ⟨by omega, by omega, nob_block hA3 (nobs5 (nob_int _) (nob_int _) (nob_cx _ _) (nob_str _) (nob_str _))⟩
      · exact ⟨by omega, by omega, nob_block hB3 (nobs5 (nob_int _) (nob_int _) (nob_cx _ _) (nob_str _) (nob_str _))⟩
    · exact ((HF1.out.trans HFa.out (fun _ _ e => e) (fun _ _ f => f.elim)).trans f2 (fun _ _ e => e) (fun _ _ e => e)).trans FF (fun _ _ e => e) (fun i hi e => by have := HF1.out.size; rcases e with e | e <;> omega)
  have k2 := hk
  clear hk
  by_cases hk : c = 3
  · have hO : own (c : Int) = 4 := by unfold own; rw [if_neg (by omega), if_neg (by omega), if_pos (by omega)]
    rw [hO] at O
    rw [if_neg k1, if_neg k2, if_pos hk] at HR
    clear hO
    subst hk
    go_enter Tryz.func20, Tryz.ntmps20
    go_wp2_with fail
    refine K.mono ?_
    rintro x w1 ⟨rfl, r1, f1⟩
    have hlt1 := r1.lt
    obtain ⟨hB1, hBs⟩ := HB.out w1 f1
    have HF1 : Hid (Fr (PQ p q) w w1) := HF.out.trans f1 (fun _ _ f => f.elim) (fun _ _ e => e)
    have hAB : ¬ w1.heap.size = w.heap.size := by omega
    have fa : Fr no w1 (w1.alloc (.cells #[.int .i64 ((3 : Nat) : Int), .int .i64 0, .complex .f64 0 0, .string e0, .string e0] 39)) := (Fr.refl no w1).alloc _ _
    have hA0 := heap_alloc_new w1 (.cells #[.int .i64 ((3 : Nat) : Int), .int .i64 0, .complex .f64 0 0, .string e0, .string e0] 39)
    have ra : RT _ p q t := r1.new fa
    have hB2 := fa.heap hB1 (fun f => f)
    have HFa : Hid (Fr no w1 (w1.alloc (.cells #[.int .i64 ((3 : Nat) : Int), .int .i64 0, .complex .f64 0 0, .string e0, .string e0] 39))) := fa
    clear fa f1 hB1
    go_wp2_with fail
    refine (O _).mono ?_
    rintro x w1x ⟨rfl, rfl⟩
    go_wp2_with fail
    refine (rName_any _ p q t ra).mono ?_
    rintro x w2 ⟨rfl, r2, f2⟩
    have hA3 := f2.heap hA0 (fun e => e.elim (fun e => by omega) (fun e => by omega))
    have hB3 := f2.heap hB2 (fun e => e.elim (fun e => by omega) (fun e => by omega))
    generalize tkT 20 t = r3 at *
    obtain ⟨nm, t3⟩ := r3
    simp only [] at r2 HR ⊢
    obtain ⟨⟨a0, a1, a2, a3, a4⟩, az0, az1, az2, az3, az4⟩ := cells5z hA3
    obtain ⟨⟨b0, b1, b2, b3, b4⟩, bz0, bz1, bz2, bz3, bz4⟩ := cells5z hB3
    clear hA0 hB2
    go_wp2_with fail
    have g1 : (w2.setCell ⟨w1.heap.size, 3, none⟩ (.string nm)).heap[w.heap.size]? = some (.cells #[.int .i64 0, .int .i64 0, .complex .f64 0 0, .string e0, .string e0] 39 (0, 0)) := by
      rw [Below.heap_setCell w2 ⟨w1.heap.size, 3, none⟩ _ w.heap.size (by simp; omega)]
      exact hB3
    refine bodyPost_ret (results_20 _ w.heap.size _ _ _ _ _ (set_chain5 g1) _ rfl) rfl ?_
    have FF := (fr_one w2 w1.heap.size 3 (.string nm)).trans (fr_chain5 (w2.setCell ⟨w1.heap.size, 3, none⟩ (.string nm)) w.heap.size (.int .i64 3) (.int .i64 0) (.complex .f64 0 0) (.string nm) (.string e0)) (U := fun k => k = w1.heap.size ∨ k = w.heap.size) (fun _ _ e => .inl e) (fun _ _ e => .inr e)
    rw [HR.out]
    refine ⟨rfl, r2.away (fun k hk => ?_) FF, ?_⟩
    · rcases hk with rfl | rfl
      · exact ⟨by omega, by omega, nob_block hA3 (nobs5 (nob_int _) (nob_int _) (nob_cx _ _) (nob_str _) (nob_str _))⟩
      · exact ⟨by omega, by omega, nob_block hB3 (nobs5 (nob_int _) (nob_int _) (nob_cx _ _) (nob_str _) (nob_str _))⟩
    · exact ((HF1.out.trans HFa.out (fun _ _ e => e) (fun _ _ f => f.elim)).trans f2 (fun _ _ e => e) (fun _ _ e => e)).trans FF (fun _ _ e => e) (fun i hi e => by have := HF1.out.size; rcases e with e | e <;> omega)
  have k3 := hk
  clear hk
  by_cases hk : c = 4 ∨ c = 5
  · have hO : own (c : Int) = 12 := by unfold own; rw [if_neg (by omega), if_neg (by omega), if_neg (by omega), if_pos (by omega)]
    rw [hO] at O
    rw [if_neg k1, if_neg k2, if_neg k3, if_pos hk] at HR
    clear hO
    clear hk k1 k2 k3
    go_enter Tryz.func20, Tryz.ntmps20
    go_wp2_with fail
    refine K.mono ?_
    rintro x w1 ⟨rfl, r1, f1⟩
    have hlt1 := r1.lt
    obtain ⟨hB1, hBs⟩ := HB.out w1 f1
    have HF1 : Hid (Fr (PQ p q) w w1) := HF.out.trans f1 (fun _ _ f => f.elim) (fun _ _ e => e)
    have hAB : ¬ w1.heap.size = w.heap.size := by omega
    have fa : Fr no w1 (w1.alloc (.cells #[.int .i64 (c : Int), .int .i64 0, .complex .f64 0 0, .string e0, .string e0] 39)) := (Fr.refl no w1).alloc _ _
    have hA0 := heap_alloc_new w1 (.cells #[.int .i64 (c : Int), .int .i64 0, .complex .f64 0 0, .string e0, .string e0] 39)
    have ra : RT _ p q t := r1.new fa
    have hB2 := fa.heap hB1 (fun f => f)
    have HFa : Hid (Fr no w1 (w1.alloc (.cells #[.int .i64 (c : Int), .int .i64 0, .complex .f64 0 0, .string e0, .string e0] 39))) := fa
    clear fa f1 hB1
    go_wp2_with fail
    refine (O _).mono ?_
    rintro x w1x ⟨rfl, rfl⟩
    go_wp2_with fail
    refine (rName_any _ p q t ra).mono ?_
    rintro x w2 ⟨rfl, r2, f2⟩
    have hA3 := f2.heap hA0 (fun e => e.elim (fun e => by omega) (fun e => by omega))
    have hB3 := f2.heap hB2 (fun e => e.elim (fun e => by omega) (fun e => by omega))
    generalize tkT 20 t = r3 at *
    obtain ⟨nm, t3⟩ := r3
    simp only [] at r2 HR ⊢
    obtain ⟨⟨a0, a1, a2, a3, a4⟩, az0, az1, az2, az3, az4⟩ := cells5z hA3
    have hA4 : (w2.setCell ⟨w1.heap.size, 3, none⟩ (.string nm)).heap[w1.heap.size]? = some (.cells #[.int .i64 (c : Int), .int .i64 0, .complex .f64 0 0, .string nm, .string e0] 39 (0, 0)) := set_at hA3 3 _
    have hB4 : (w2.setCell ⟨w1.heap.size, 3, none⟩ (.string nm)).heap[w.heap.size]? = some (.cells #[.int .i64 0, .int .i64 0, .complex .f64 0 0, .string e0, .string e0] 39 (0, 0)) := by
      rw [Below.heap_setCell w2 ⟨w1.heap.size, 3, none⟩ _ w.heap.size (by simp; omega)]
      exact hB3
    have rb : RT (w2.setCell ⟨w1.heap.size, 3, none⟩ (.string nm)) p q t3 := r2.away (fun k hk => by subst hk; exact ⟨by omega, by omega, nob_block hA3 (nobs5 (nob_int _) (nob_int _) (nob_cx _ _) (nob_str _) (nob_str _))⟩) (fr_one w2 w1.heap.size 3 (.string nm))
    have HF2 : Hid (Fr (PQ p q) w (w2.setCell ⟨w1.heap.size, 3, none⟩ (.string nm))) := ((HF1.out.trans HFa.out (fun _ _ e => e) (fun _ _ f => f.elim)).trans f2 (fun _ _ e => e) (fun _ _ e => e)).trans (fr_one w2 w1.heap.size 3 (.string nm)) (fun _ _ e => e) (fun i hi e => by have := HF1.out.size; omega)
    have hlt2 := rb.lt
    clear hA0 hB2
    go_wp2_with fail
    refine (rName_any _ p q t3 rb).mono ?_
    rintro x w3 ⟨rfl, r3, f3⟩
    clear a0 a1 a2 a3 a4 az0 az1 az2 az3 az4
    have hA5 := f3.heap hA4 (fun e => e.elim (fun e => by omega) (fun e => by omega))
    have hB5 := f3.heap hB4 (fun e => e.elim (fun e => by omega) (fun e => by omega))
    generalize tkT 20 t3 = r4 at *
    obtain ⟨nm2, t4⟩ := r4
    simp only [] at r3 HR ⊢
    obtain ⟨⟨a0, a1, a2, a3, a4⟩, az0, az1, az2, az3, az4⟩ := cells5z hA5
    obtain ⟨⟨b0, b1, b2, b3, b4⟩, bz0, bz1, bz2, bz3, bz4⟩ := cells5z hB5
    clear hA4 hB4
    go_wp2_with fail
    have g1 : (w3.setCell ⟨w1.heap.size, 4, none⟩ (.string nm2)).heap[w.heap.size]? = some (.cells #[.int .i64 0, .int .i64 0, .complex .f64 0 0, .string e0, .string e0] 39 (0, 0)) := by
      rw [Below.heap_setCell w3 ⟨w1.heap.size, 4, none⟩ _ w.heap.size (by simp; omega)]
      exact hB5
    refine bodyPost_ret (results_20 _ w.heap.size _ _ _ _ _ (set_chain5 g1) _ rfl) rfl ?_
    have FF := (fr_one w3 w1.heap.size 4 (.string nm2)).trans (fr_chain5 (w3.setCell ⟨w1.heap.size, 4, none⟩ (.string nm2)) w.heap.size (.int .i64 (c : Int)) (.int .i64 0) (.complex .f64 0 0) (.string nm) (.string nm2)) (U := fun k => k = w1.heap.size ∨ k = w.heap.size) (fun _ _ e => .inl e) (fun _ _ e => .inr e)
    rw [HR.out]
    refine ⟨rfl, r3.away (fun k hk => ?_) FF, ?_⟩
    · rcases hk with rfl | rfl
      · exact ⟨by omega, by omega, nob_block hA5 (nobs5 (nob_int _) (nob_int _) (nob_cx _ _) (nob_str _) (nob_str _))⟩
      · exact ⟨by omega, by omega, nob_block hB5 (nobs5 (nob_int _) (nob_int _) (nob_cx _ _) (nob_str _) (nob_str _))⟩
    · exact (HF2.out.trans f3 (fun _ _ e => e) (fun _ _ e => e)).trans FF (fun _ _ e => e) (fun i hi e => by have := HF1.out.size; rcases e with e | e <;> omega)
  have k4 := hk
  clear hk
  have hO : own (c : Int) = 0 := by unfold own; rw [if_neg (by omega), if_neg (by omega), if_neg (by omega), if_neg (by omega)]
  rw [hO] at O
  rw [if_neg k1, if_neg k2, if_neg k3, if_neg k4] at HR
  clear hO
  go_enter Tryz.func20, Tryz.ntmps20
  go_wp2_with fail
  refine K.mono ?_
  rintro x w1 ⟨rfl, r1, f1⟩
  have hlt1 := r1.lt
  obtain ⟨hB1, hBs⟩ := HB.out w1 f1
  have HF1 : Hid (Fr (PQ p q) w w1) := HF.out.trans f1 (fun _ _ f => f.elim) (fun _ _ e => e)
  have hAB : ¬ w1.heap.size = w.heap.size := by omega
  obtain ⟨⟨b0, b1, b2, b3, b4⟩, bz0, bz1, bz2, bz3, bz4⟩ := cells5z hB1
  clear f1
  go_wp2_with fail
  refine (O _).mono ?_
  rintro x w1x ⟨rfl, rfl⟩
  go_wp2_with fail
  refine bodyPost_ret (results_20 _ w.heap.size _ _ _ _ _ (((Fr.refl no _).alloc _ _).heap (set_chain5 hB1) (fun f => f)) _ rfl) rfl ?_
  have FF := fr_chain5 w1 w.heap.size (.int .i64 (c : Int)) (.int .i64 0) (.complex .f64 0 0) (.string e0) (.string e0)
  rw [HR.out]
  refine ⟨rfl, (r1.away (fun k hk => ?_) FF).new ((Fr.refl no _).alloc _ _), ?_⟩
  · subst hk
    exact ⟨by omega, by omega, nob_block hB1 (nobs5 (nob_int _) (nob_int _) (nob_cx _ _) (nob_str _) (nob_str _))⟩
  · exact (HF1.out.trans FF (fun _ _ e => e) (fun i hi e => by omega)).alloc _ _
end Go.Proofs.YthncdbobjeeeaaaGreatDoor
