/- The document's watch: what its calls keep of the bounds. -/
import Derived.Test.YtnineggppoipiaaRi
namespace Go.Proofs.Ytnineggppoipiaa
open Go.ChangeShapes Go.WideShapes Go.ChangeAt Go.RowKit

theorem kAdd_len (ks : List Kp) (a i : Int) : (kAdd ks a i).length ≤ ks.length + 1 := by
  unfold kAdd
  split <;> simp
theorem acqK_len (ks : List Kp) (t a i : Int) : (acqK ks t a i).length ≤ ks.length + 1 := by
  unfold acqK
  split
  · exact kAdd_len ks a i
  · omega
theorem relK_len (T : Wt) (ks : List Kp) (t a i : Int) : (relK T ks t a i).length ≤ ks.length + 1 := by
  unfold relK
  split
  · rw [List.length_set]
    exact kAdd_len ks a i
  · omega
theorem accA_len (T : Wt) (as' : List Ac) (t a i : Int) (wr : Bool) : (accA T as' t a i wr).length ≤ as'.length + 1 := by
  unfold accA
  split <;> simp
theorem bumpR_le {n : Int} (h : 0 ≤ n) (b : Bool) : 0 ≤ bumpR n b ∧ bumpR n b ≤ n + 1 := by
  cases b
  · exact ⟨h, by show n ≤ n + 1; omega⟩
  · exact ⟨by show 0 ≤ n + 1; omega, Int.le_refl _⟩
theorem BW.begin {T : Wt} {M : Int} (h : BW T M) (t b : Int) : BW (beginW T t b) (M + 1) := by
  unfold beginW
  split
  · exact (h.join _ (fun j => ⟨(h _ j).1, (h _ j).2.1⟩)).tick _
  · exact h.mono (by omega)
theorem BW.acq {T : Wt} {ks : List Kp} {M : Int} (h : BW T M) (hK : BK ks M) (hM : 0 ≤ M) (t a i : Int) : BW (acqW T ks t a i) M := by
  unfold acqW
  split
  · exact h.join _ (fun j => hK.get hM a i j)
  · exact h
theorem BK.acq {ks : List Kp} {M : Int} (hK : BK ks M) (hM : 0 ≤ M) (t a i : Int) : BK (acqK ks t a i) M := by
  unfold acqK
  split
  · exact hK.add hM a i
  · exact hK
theorem BW.rel {T : Wt} {M : Int} (h : BW T M) (t : Int) : BW (relW T t) (M + 1) := by
  unfold relW
  split
  · exact h.tick _
  · exact h.mono (by omega)
theorem BK.rel {T : Wt} {ks : List Kp} {M : Int} (h : BW T M) (hK : BK ks M) (hM : 0 ≤ M) (t a i : Int) : BK (relK T ks t a i) M := by
  unfold relK
  split
  · intro x hx j
    rcases List.mem_or_eq_of_mem_set hx with hx | rfl
    · exact hK.add hM a i x hx j
    · have h1 := hK.get hM a i j
      have h2 := h t.toNat j
      show 0 ≤ joinC _ _ j ∧ joinC _ _ j ≤ M
      unfold joinC
      omega
  · exact hK
theorem BW.joined {T : Wt} {M : Int} (h : BW T M) (t o : Int) : BW (joinedW T t o) M := by
  unfold joinedW
  split
  · exact h.join _ (fun j => ⟨(h _ j).2.2.1, (h _ j).2.2.2⟩)
  · exact h

/-- The document's watch, all of it, by a count of calls. -/
structure Dw where
  T : Wt
  ks : List Kp
  as_ : List Ac
  n : Int
structure DW (c : Nat) (w : World) (p : Nat) (D : Dw) (k : Nat) : Prop where
  cc : D.T.c = c
  rw : RW w p D.T D.ks D.as_ D.n
  b : BW D.T k
  bk : BK D.ks k
  lk : D.ks.length ≤ k
  la : D.as_.length ≤ k
  n0 : 0 ≤ D.n ∧ D.n ≤ k
theorem DW.up {w : World} {p c : Nat} {D : Dw} {k m : Nat} (h : DW c w p D k) (hm : k ≤ m) : DW c w p D m :=
  ⟨h.cc, h.rw, h.b.mono (by omega), h.bk.mono (by omega), by have := h.lk; omega, by have := h.la; omega, by have := h.n0; omega⟩
theorem DW.keep {w w' : World} {p c : Nat} {D : Dw} {k : Nat} (h : DW c w p D k) (f : Fr no w w') : DW c w' p D k := ⟨h.cc, h.rw.keep f, h.b, h.bk, h.lk, h.la, h.n0⟩
section
variable {w : World} {p c : Nat} {D : Dw} {k : Nat}
theorem begin_c (T : Wt) (t b : Int) : (beginW T t b).c = T.c := by unfold beginW; split <;> rfl
theorem end_c (T : Wt) (t : Int) : (endW T t).c = T.c := by unfold endW; split <;> rfl
theorem joined_c (T : Wt) (t b : Int) : (joinedW T t b).c = T.c := by unfold joinedW; split <;> rfl
theorem acq_c (T : Wt) (ks : List Kp) (t a i : Int) : (acqW T ks t a i).c = T.c := by unfold acqW; split <;> rfl
theorem rel_c (T : Wt) (t : Int) : (relW T t).c = T.c := by unfold relW; split <;> rfl
theorem DW.begin (h : DW c w p D k) (hk : k ≤ 999) (t b : Int) : Calls Try.prog 13 #[.pointer (some ⟨p, 0, none⟩), .int .i64 t, .int .i64 b] w fun e w' => e = .returned (.tuple #[]) ∧ DW c w' p ⟨beginW D.T t b, D.ks, D.as_, D.n⟩ (k + 1) ∧ Fr (TD c w) w w' :=
  (begin_any w p D.T D.ks D.as_ D.n h.rw (h.b.mono (by omega)) t b).mono fun e w' g => ⟨g.1, ⟨(begin_c D.T t b).trans h.cc, g.2.1, by have := h.b.begin t b; exact_mod_cast this, h.bk.mono (by omega), by have := h.lk; show D.ks.length ≤ _; omega, by have := h.la; show D.as_.length ≤ _; omega, by have := h.n0; show 0 ≤ D.n ∧ D.n ≤ _; omega⟩, h.cc ▸ h.rw.td g.2.2⟩
theorem DW.end_ (h : DW c w p D k) (t : Int) : Calls Try.prog 15 #[.pointer (some ⟨p, 0, none⟩), .int .i64 t] w fun e w' => e = .returned (.tuple #[]) ∧ DW c w' p ⟨endW D.T t, D.ks, D.as_, D.n⟩ (k + 1) ∧ Fr (TD c w) w w' :=
  (end_any w p D.T D.ks D.as_ D.n h.rw t).mono fun e w' g => ⟨g.1, ⟨(end_c D.T t).trans h.cc, g.2.1, (h.b.end_ t).mono (by omega), h.bk.mono (by omega), by have := h.lk; show D.ks.length ≤ _; omega, by have := h.la; show D.as_.length ≤ _; omega, by have := h.n0; show 0 ≤ D.n ∧ D.n ≤ _; omega⟩, h.cc ▸ h.rw.td g.2.2⟩
theorem DW.joined (h : DW c w p D k) (hk : k ≤ 999) (t o : Int) : Calls Try.prog 17 #[.pointer (some ⟨p, 0, none⟩), .int .i64 t, .int .i64 o] w fun e w' => e = .returned (.tuple #[]) ∧ DW c w' p ⟨joinedW D.T t o, D.ks, D.as_, D.n⟩ (k + 1) ∧ Fr (TD c w) w w' :=
  (joined_any w p D.T D.ks D.as_ D.n h.rw (h.b.mono (by omega)) t o).mono fun e w' g => ⟨g.1, ⟨(joined_c D.T t o).trans h.cc, g.2.1, (h.b.joined t o).mono (by omega), h.bk.mono (by omega), by have := h.lk; show D.ks.length ≤ _; omega, by have := h.la; show D.as_.length ≤ _; omega, by have := h.n0; show 0 ≤ D.n ∧ D.n ≤ _; omega⟩, h.cc ▸ h.rw.td g.2.2⟩
theorem DW.acquire (h : DW c w p D k) (hk : k ≤ 999) (t a i : Int) : Calls Try.prog 19 #[.pointer (some ⟨p, 0, none⟩), .int .i64 t, .int .i64 a, .int .i64 i] w fun e w' => e = .returned (.tuple #[]) ∧ DW c w' p ⟨acqW D.T D.ks t a i, acqK D.ks t a i, D.as_, D.n⟩ (k + 1) ∧ Fr (TD c w) w w' :=
  (acquire_any w p D.T D.ks D.as_ D.n h.rw (h.b.mono (by omega)) (h.bk.mono (by omega)) (by have := h.lk; omega) t a i).mono fun e w' g => ⟨g.1, ⟨(acq_c D.T D.ks t a i).trans h.cc, g.2.1, (h.b.acq h.bk (by omega) t a i).mono (by omega), (h.bk.acq (by omega) t a i).mono (by omega), by have := h.lk; have := acqK_len D.ks t a i; show (acqK D.ks t a i).length ≤ _; omega, by have := h.la; show D.as_.length ≤ _; omega, by have := h.n0; show 0 ≤ D.n ∧ D.n ≤ _; omega⟩, h.cc ▸ g.2.2⟩
theorem DW.release (h : DW c w p D k) (hk : k ≤ 999) (t a i : Int) : Calls Try.prog 21 #[.pointer (some ⟨p, 0, none⟩), .int .i64 t, .int .i64 a, .int .i64 i] w fun e w' => e = .returned (.tuple #[]) ∧ DW c w' p ⟨relW D.T t, relK D.T D.ks t a i, D.as_, D.n⟩ (k + 1) ∧ Fr (TD c w) w w' :=
  (release_any w p D.T D.ks D.as_ D.n h.rw (h.b.mono (by omega)) (h.bk.mono (by omega)) (by have := h.lk; omega) t a i).mono fun e w' g => ⟨g.1, ⟨(rel_c D.T t).trans h.cc, g.2.1, by have := h.b.rel t; exact_mod_cast this, (h.bk.rel h.b (by omega) t a i).mono (by omega), by have := h.lk; have := relK_len D.T D.ks t a i; show (relK D.T D.ks t a i).length ≤ _; omega, by have := h.la; show D.as_.length ≤ _; omega, by have := h.n0; show 0 ≤ D.n ∧ D.n ≤ _; omega⟩, h.cc ▸ g.2.2⟩
theorem DW.access (h : DW c w p D k) (hk : k ≤ 999) (t a i : Int) (wr : Bool) : Calls Try.prog 23 #[.pointer (some ⟨p, 0, none⟩), .int .i64 t, .int .i64 a, .int .i64 i, .bool wr] w fun e w' => e = .returned (.bool (accB D.T D.as_ t a i wr)) ∧ DW c w' p ⟨D.T, D.ks, accA D.T D.as_ t a i wr, bumpR D.n (accB D.T D.as_ t a i wr)⟩ (k + 1) ∧ Fr (TD c w) w w' :=
  (access_any w p D.T D.ks D.as_ D.n h.rw (by have := h.la; omega) (by have := h.n0; omega) t a i wr).mono fun e w' g => ⟨g.1, ⟨h.cc, g.2.1, h.b.mono (by omega), h.bk.mono (by omega), by have := h.lk; show D.ks.length ≤ _; omega, by have := h.la; have := accA_len D.T D.as_ t a i wr; show (accA D.T D.as_ t a i wr).length ≤ _; omega, by have := h.n0; have := bumpR_le h.n0.1 (accB D.T D.as_ t a i wr); show 0 ≤ bumpR _ _ ∧ bumpR _ _ ≤ _; omega⟩, h.cc ▸ g.2.2⟩
theorem DW.clock (h : DW c w p D k) (t : Int) : Calls Try.prog 28 #[.pointer (some ⟨p, 0, none⟩), .int .i64 t] w fun e w' => e = .returned (ckV (clockW D.T t)) ∧ DW c w' p D k ∧ Fr no w w' :=
  (clock_any w p D.T D.ks D.as_ D.n h.rw t).mono fun _ _ g => ⟨g.1, h.keep g.2, g.2⟩
end
theorem dw_new (w : World) (c : Nat) (hc : c ≤ w.heap.size) : Calls Try.prog 11 #[] w fun e w' => e = .returned (.pointer (some ⟨w.heap.size, 0, none⟩)) ∧ DW c w' w.heap.size ⟨TB c 13, [], [], 0⟩ 1 ∧ Fr no w w' :=
  (new_any w c hc).mono fun _ _ g => ⟨g.1, ⟨rfl, g.2.1, fun t j => by
    have h1 : 0 ≤ (TB c 13).now t j ∧ (TB c 13).now t j ≤ 1 := by
      show 0 ≤ (if 0 < t ∧ t < 13 ∧ j = t then (1 : Int) else 0) ∧ (if 0 < t ∧ t < 13 ∧ j = t then (1 : Int) else 0) ≤ 1
      split <;> omega
    exact ⟨h1.1, h1.2, Int.le_refl 0, by show (0 : Int) ≤ 1; omega⟩, fun x hx => by simp at hx, Nat.zero_le _, Nat.zero_le _, ⟨Int.le_refl 0, by show (0 : Int) ≤ 1; omega⟩⟩, g.2.2⟩
end Go.Proofs.Ytnineggppoipiaa
