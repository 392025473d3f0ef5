/- The document's class reader: it goes on behind an error, and keeps that there was one. -/
import Derived.Test.YthncdbobjeeeaaaGreatDoorGn
namespace Go.Proofs.YthncdbobjeeeaaaGreatDoor
open Go.ChangeShapes Go.WideShapes Go.ChangeAt Go.RowKit

/-- The document's class reader at block p, over a reader at q: the bytes left, whether it failed. -/
structure DS (w : World) (p q : Nat) (s : List Nat × Bool) : Prop where
  blk : w.heap[p]? = some (.cells #[.pointer (some ⟨q, 0, none⟩), .bool s.2] 80 (0, 0))
  rd : Rd 78 w q s.1
  by_ : ∀ c ∈ s.1, c < 256
  ln : s.1.length ≤ 1099511627776

theorem DS.ne {w : World} {p q : Nat} {s : List Nat × Bool} (h : DS w p q s) : p ≠ q := by
  intro e
  subst e
  obtain ⟨v, h1, _⟩ := h.rd
  rw [h.blk] at h1
  simp at h1

theorem DS.lt {w : World} {p q : Nat} {s : List Nat × Bool} (h : DS w p q s) : p < w.heap.size ∧ q < w.heap.size := by
  obtain ⟨v, h1, _⟩ := h.rd
  exact ⟨lt_of_heap h.blk, lt_of_heap h1⟩

theorem DS.kept {S : Nat → Prop} {w w' : World} {p q : Nat} {s : List Nat × Bool} (h : DS w p q s) (hf : Fr S w w') (hp : ¬ S p) (hq : ¬ S q) (hS : ∀ k c, w.cell? k = some (.int .u8 c) → ¬ S k.block) : DS w' p q s :=
  ⟨hf.heap h.blk hp, h.rd.kept hf hq hS, h.by_, h.ln⟩

theorem DS.new {w w' : World} {p q : Nat} {s : List Nat × Bool} (h : DS w p q s) (hf : Fr no w w') : DS w' p q s := h.kept hf (fun f => f) (fun f => f) (fun _ _ _ f => f)

theorem DS.cells {w : World} {p q : Nat} {s : List Nat × Bool} (h : DS w p q s) : w.cell? ⟨p, 0, none⟩ = some (.pointer (some ⟨q, 0, none⟩)) ∧ w.cell? ⟨p, 1, none⟩ = some (.bool s.2) ∧ w.frozen? ⟨p, 1, none⟩ = false := by
  have hb := h.blk
  refine ⟨?_, ?_, ?_⟩ <;> simp [World.cell?, World.frozen?, hb]

theorem DS.set {w : World} {p q : Nat} {s : List Nat × Bool} (h : DS w p q s) (b : Bool) : DS (w.setCell ⟨p, 1, none⟩ (.bool b)) p q (s.1, b) ∧ Fr (fun k => k = p) w (w.setCell ⟨p, 1, none⟩ (.bool b)) := by
  have hf : Fr (fun k => k = p) w (w.setCell ⟨p, 1, none⟩ (.bool b)) := (Fr.refl (fun k => k = p) w).setCell (p := ⟨p, 1, none⟩) (fun _ => rfl) _
  refine ⟨⟨set_second h.blk, h.rd.kept hf (fun e => h.ne e.symm) (fun k c hk e => ?_), h.by_, h.ln⟩, hf⟩
  obtain ⟨cur, t, fz, hg, hm⟩ := cell_mem hk
  rw [e, h.blk] at hg
  simp only [Option.some.injEq, Obj.cells.injEq] at hg
  obtain ⟨rfl, _, _⟩ := hg
  simp at hm

theorem DS.stepq {w w' : World} {p q : Nat} {s : List Nat × Bool} {l' : List Nat} (h : DS w p q s) (hr : Rd 78 w' q l') (hf : Fr (fun k => k = q) w w') (hl : ∀ c ∈ l', c < 256) (hn : l'.length ≤ 1099511627776) : DS w' p q (l', s.2) :=
  ⟨hf.heap h.blk (fun e => h.ne e), hr, hl, hn⟩

theorem DS.away {w w' : World} {p q : Nat} {s : List Nat × Bool} (h : DS w p q s) {S : Nat → Prop} (hS : ∀ k, S k → k ≠ p ∧ k ≠ q ∧ ∀ cur t fz, w.heap[k]? = some (.cells cur t fz) → ∀ u ∈ cur.toList, nob u) (hf : Fr S w w') : DS w' p q s := by
  refine DS.kept h hf (fun e => (hS p e).1 rfl) (fun e => (hS q e).2.1 rfl) (fun k c hk e => ?_)
  obtain ⟨cur, t, fz, hg, hm⟩ := cell_mem hk
  exact (hS k.block e).2.2 cur t fz hg _ hm c rfl

/-- What is read of one byte, a number, a complex one, a text, a count. -/
def dB (s : List Nat × Bool) : Nat × (List Nat × Bool) := ((by1 s.1).1, (s.1.drop (by1 s.1).2.2, s.2 || decide ((by1 s.1).2.1 ≠ 0)))
def dI (s : List Nat × Bool) : Int × (List Nat × Bool) := (unf (rd s.1 0 0).1, (s.1.drop (rd s.1 0 0).2.2, s.2 || decide ((rd s.1 0 0).2.1 ≠ 0)))
def dC (s : List Nat × Bool) : (Nat × Nat) × (List Nat × Bool) := (((cxd s.1).1, (cxd s.1).2.1), (s.1.drop (cxd s.1).2.2.2, s.2 || decide ((cxd s.1).2.2.1 ≠ 0)))
def dX (most : Int) (s : List Nat × Bool) : ByteArray × (List Nat × Bool) := (bstr (tx s.1 most).1, (s.1.drop (tx s.1 most).2.2, s.2 || decide ((tx s.1 most).2.1 ≠ 0)))
def dN (most : Int) (s : List Nat × Bool) : Nat × (List Nat × Bool) := ((ct s.1 most).1, (s.1.drop (ct s.1 most).2.2, s.2 || decide ((ct s.1 most).2.1 ≠ 0)))

theorem dText_any (w : World) (p q : Nat) (s : List Nat × Bool) (h : DS w p q s) :
    Calls Tryz.prog 26 #[.pointer (some ⟨p, 0, none⟩)] w fun x w' => x = .returned (.string (dX 20 s).1) ∧ DS w' p q (dX 20 s).2 ∧ Fr (PQ p q) w w' := by
  obtain ⟨l, b⟩ := s
  have U := docText_any w q l h.rd h.by_ h.ln 20 (by omega) (by omega)
  have HD : Hid (dX 20 (l, b) = (bstr (tx l 20).1, (l.drop (tx l 20).2.2, b || decide ((tx l 20).2.1 ≠ 0)))) := rfl
  obtain ⟨c0, c1, z1⟩ := h.cells
  have HS : Hid (∀ w1 k, Rd 78 w1 q (l.drop k) → Fr (fun i => i = q) w w1 → DS w1 p q (l.drop k, b)) := fun w1 k r1 f1 => h.stepq r1 f1 (bytes_drop h.by_ k) (len_drop h.ln k)
  clear h
  generalize dX 20 (l, b) = D at *
  generalize tx l 20 = t at *
  obtain ⟨v, x, k⟩ := t
  simp only [] at *
  cases b with
  | true =>
    go_enter Tryz.func26, Tryz.ntmps26
    go_wp2_with fail
    refine U.mono ?_
    rintro e w1 ⟨rfl, r1, f1⟩
    have d1 := HS.out w1 _ r1 f1
    obtain ⟨c0', c1', z1'⟩ := d1.cells
    have S := d1.set true
    clear d1
    go_wp2_with fail
    go_ret
    rw [HD.out]
    exact ⟨rfl, by simpa using S.1, f1.trans S.2 (fun _ _ e => .inr e) (fun _ _ e => .inl e)⟩
  | false =>
    by_cases hx : x = 0
    · subst hx
      go_enter Tryz.func26, Tryz.ntmps26
      go_wp2_with fail
      refine U.mono ?_
      rintro e w1 ⟨rfl, r1, f1⟩
      have d1 := HS.out w1 _ r1 f1
      obtain ⟨c0', c1', z1'⟩ := d1.cells
      have S := d1.set false
      clear d1
      go_wp2_with fail
      go_ret
      rw [HD.out]
      exact ⟨rfl, by simpa using S.1, f1.trans S.2 (fun _ _ e => .inr e) (fun _ _ e => .inl e)⟩
    · have hx' : ((x : Int) == 0) = false := by simp; omega
      have hx2 : ((x : Int) != 0) = true := by simp; omega
      go_enter Tryz.func26, Tryz.ntmps26
      go_wp2_with fail
      refine U.mono ?_
      rintro e w1 ⟨rfl, r1, f1⟩
      have d1 := HS.out w1 _ r1 f1
      obtain ⟨c0', c1', z1'⟩ := d1.cells
      have S := d1.set true
      clear d1
      go_wp2_with fail
      go_ret
      rw [HD.out]
      exact ⟨rfl, by simpa [hx] using S.1, f1.trans S.2 (fun _ _ e => .inr e) (fun _ _ e => .inl e)⟩

theorem dNum_any (w : World) (p q : Nat) (s : List Nat × Bool) (h : DS w p q s) (most : Int) (hm1 : -9223372036854775808 ≤ most) (hm2 : most ≤ 9223372036854775807) :
    Calls Tryz.prog 27 #[.pointer (some ⟨p, 0, none⟩), .int .i64 most] w fun x w' => x = .returned (.int .i64 ((dN most s).1 : Int)) ∧ DS w' p q (dN most s).2 ∧ Fr (PQ p q) w w' := by
  obtain ⟨l, b⟩ := s
  have U := docCount_any w q l h.rd h.by_ h.ln most hm1 hm2
  have HD : Hid (dN most (l, b) = ((ct l most).1, (l.drop (ct l most).2.2, b || decide ((ct l most).2.1 ≠ 0)))) := rfl
  obtain ⟨c0, c1, z1⟩ := h.cells
  have HS : Hid (∀ w1 k, Rd 78 w1 q (l.drop k) → Fr (fun i => i = q) w w1 → DS w1 p q (l.drop k, b)) := fun w1 k r1 f1 => h.stepq r1 f1 (bytes_drop h.by_ k) (len_drop h.ln k)
  clear h
  generalize dN most (l, b) = D at *
  generalize ct l most = t at *
  obtain ⟨v, x, k⟩ := t
  simp only [] at *
  cases b with
  | true =>
    go_enter Tryz.func27, Tryz.ntmps27
    go_wp2_with fail
    refine U.mono ?_
    rintro e w1 ⟨rfl, r1, _, f1⟩
    have d1 := HS.out w1 _ r1 f1
    obtain ⟨c0', c1', z1'⟩ := d1.cells
    have S := d1.set true
    clear d1
    go_wp2_with fail
    go_ret
    rw [HD.out]
    exact ⟨rfl, by simpa using S.1, f1.trans S.2 (fun _ _ e => .inr e) (fun _ _ e => .inl e)⟩
  | false =>
    by_cases hx : x = 0
    · subst hx
      go_enter Tryz.func27, Tryz.ntmps27
      go_wp2_with fail
      refine U.mono ?_
      rintro e w1 ⟨rfl, r1, _, f1⟩
      have d1 := HS.out w1 _ r1 f1
      obtain ⟨c0', c1', z1'⟩ := d1.cells
      have S := d1.set false
      clear d1
      go_wp2_with fail
      go_ret
      rw [HD.out]
      exact ⟨rfl, by simpa using S.1, f1.trans S.2 (fun _ _ e => .inr e) (fun _ _ e => .inl e)⟩
    · have hx' : ((x : Int) == 0) = false := by simp; omega
      have hx2 : ((x : Int) != 0) = true := by simp; omega
      go_enter Tryz.func27, Tryz.ntmps27
      go_wp2_with fail
      refine U.mono ?_
      rintro e w1 ⟨rfl, r1, _, f1⟩
      have d1 := HS.out w1 _ r1 f1
      obtain ⟨c0', c1', z1'⟩ := d1.cells
      have S := d1.set true
      clear d1
      go_wp2_with fail
      go_ret
      rw [HD.out]
      exact ⟨rfl, by simpa [hx] using S.1, f1.trans S.2 (fun _ _ e => .inr e) (fun _ _ e => .inl e)⟩

theorem dByt_any (w : World) (p q : Nat) (s : List Nat × Bool) (h : DS w p q s) :
    Calls Tryz.prog 30 #[.pointer (some ⟨p, 0, none⟩)] w fun x w' => x = .returned (.int .u8 ((dB s).1 : Int)) ∧ DS w' p q (dB s).2 ∧ Fr (PQ p q) w w' := by
  obtain ⟨l, b⟩ := s
  have U := docByte_any w q l h.rd
  have HD : Hid (dB (l, b) = ((by1 l).1, (l.drop (by1 l).2.2, b || decide ((by1 l).2.1 ≠ 0)))) := rfl
  obtain ⟨c0, c1, z1⟩ := h.cells
  have HS : Hid (∀ w1 k, Rd 78 w1 q (l.drop k) → Fr (fun i => i = q) w w1 → DS w1 p q (l.drop k, b)) := fun w1 k r1 f1 => h.stepq r1 f1 (bytes_drop h.by_ k) (len_drop h.ln k)
  clear h
  generalize dB (l, b) = D at *
  generalize by1 l = t at *
  obtain ⟨v, x, k⟩ := t
  simp only [] at *
  cases b with
  | true =>
    go_enter Tryz.func30, Tryz.ntmps30
    go_wp2_with fail
    refine U.mono ?_
    rintro e w1 ⟨rfl, r1, f1⟩
    have d1 := HS.out w1 _ r1 f1
    obtain ⟨c0', c1', z1'⟩ := d1.cells
    have S := d1.set true
    clear d1
    go_wp2_with fail
    go_ret
    rw [HD.out]
    exact ⟨rfl, by simpa using S.1, f1.trans S.2 (fun _ _ e => .inr e) (fun _ _ e => .inl e)⟩
  | false =>
    by_cases hx : x = 0
    · subst hx
      go_enter Tryz.func30, Tryz.ntmps30
      go_wp2_with fail
      refine U.mono ?_
      rintro e w1 ⟨rfl, r1, f1⟩
      have d1 := HS.out w1 _ r1 f1
      obtain ⟨c0', c1', z1'⟩ := d1.cells
      have S := d1.set false
      clear d1
      go_wp2_with fail
      go_ret
      rw [HD.out]
      exact ⟨rfl, by simpa using S.1, f1.trans S.2 (fun _ _ e => .inr e) (fun _ _ e => .inl e)⟩
    · have hx' : ((x : Int) == 0) = false := by simp; omega
      have hx2 : ((x : Int) != 0) = true := by simp; omega
      go_enter Tryz.func30, Tryz.ntmps30
      go_wp2_with fail
      refine U.mono ?_
      rintro e w1 ⟨rfl, r1, f1⟩
      have d1 := HS.out w1 _ r1 f1
      obtain ⟨c0', c1', z1'⟩ := d1.cells
      have S := d1.set true
      clear d1
      go_wp2_with fail
      go_ret
      rw [HD.out]
      exact ⟨rfl, by simpa [hx] using S.1, f1.trans S.2 (fun _ _ e => .inr e) (fun _ _ e => .inl e)⟩

end Go.Proofs.YthncdbobjeeeaaaGreatDoor

/- The document's class reader: types, constants. -/
namespace Go.Proofs.YthncdbobjeeeaaaGreatDoor
open Go.ChangeShapes Go.WideShapes Go.ChangeAt Go.RowKit

theorem dB_lt {w : World} {p q : Nat} {s : List Nat × Bool} (h : DS w p q s) : (dB s).1 < 256 := by
  unfold dB
  cases e : s.1 with
  | nil => simp [by1]
  | cons c r =>
    have := h.by_ c (by rw [e]; simp)
    simpa [by1] using this

theorem results_29 (w : World) (r : Nat) (x0 x1 : Value) (h : w.heap[r]? = some (.cells #[x0, x1] 46 (0, 0))) (tmps : Array Value) (h2 : tmps.getD 2 undef = .pointer (some ⟨r, 0, none⟩)) :
    (results Tryz.f29 tmps).run Tryz.prog w = .ok (.agg #[x0, x1]) w := by
  have hl : (loadVar 46 ⟨r, 0, none⟩).run Tryz.prog w = .ok (.agg #[x0, x1]) w := run_loadVar_row (P := Tryz.prog) w r 46 46 #[x0, x1] (0, 0) _ h Tryz.underlying46 rfl (by kernel_rfl)
  have h2' : tmps[2]?.getD undef = .pointer (some ⟨r, 0, none⟩) := by simpa using h2
  simp [results, asAddr, h2', hl]

theorem results_28 (w : World) (r : Nat) (x0 x1 x2 x3 x4 : Value) (h : w.heap[r]? = some (.cells #[x0, x1, x2, x3, x4] 39 (0, 0))) (tmps : Array Value) (h2 : tmps.getD 2 undef = .pointer (some ⟨r, 0, none⟩)) :
    (results Tryz.f28 tmps).run Tryz.prog w = .ok (.agg #[x0, x1, x2, x3, x4]) w := by
  have hl : (loadVar 39 ⟨r, 0, none⟩).run Tryz.prog w = .ok (.agg #[x0, x1, x2, x3, x4]) w := run_loadVar_row (P := Tryz.prog) w r 39 39 #[x0, x1, x2, x3, x4] (0, 0) _ h Tryz.underlying39 rfl (by kernel_rfl)
  have h2' : tmps[2]?.getD undef = .pointer (some ⟨r, 0, none⟩) := by simpa using h2
  simp [results, asAddr, h2', hl]

/-- A type, read. -/
def dTy (s : List Nat × Bool) : Ty × (List Nat × Bool) := if (dB s).1 = 4 then (⟨4, (dX 20 (dB s).2).1⟩, (dX 20 (dB s).2).2) else (⟨((dB s).1 : Int), e0⟩, (dB s).2)

set_option maxRecDepth 100000 in
theorem dType_any (w : World) (p q : Nat) (s : List Nat × Bool) (h : DS w p q s) :
    Calls Tryz.prog 29 #[.pointer (some ⟨p, 0, none⟩)] w fun x w' => x = .returned (.agg #[.int .i64 (dTy s).1.k, .string (dTy s).1.c]) ∧ DS w' p q (dTy s).2 ∧ Fr (PQ p q) w w' := by
  have f0 : Fr no w (w.alloc (.cells #[.int .i64 0, .string e0] 46)) := (Fr.refl no w).alloc _ _
  have hb0 := heap_alloc_new w (.cells #[.int .i64 0, .string e0] 46)
  have K := dByt_any _ p q s (h.new f0)
  have HR : Hid (dTy s = if (dB s).1 = 4 then (⟨4, (dX 20 (dB s).2).1⟩, (dX 20 (dB s).2).2) else (⟨((dB s).1 : Int), e0⟩, (dB s).2)) := rfl
  have hlt := h.lt
  have hc256 := dB_lt h
  have HF : Hid (Fr no w (w.alloc (.cells #[.int .i64 0, .string e0] 46))) := f0
  have hsz : (w.alloc (.cells #[.int .i64 0, .string e0] 46)).heap.size = w.heap.size + 1 := size_alloc _ _
  generalize dTy s = r at *
  generalize dB s = t at *
  obtain ⟨c, t⟩ := t
  simp only [] at K HR hc256
  have HB : Hid (∀ w1, Fr (PQ p q) (w.alloc (.cells #[.int .i64 0, .string e0] 46)) w1 → w1.heap[w.heap.size]? = some (.cells #[.int .i64 0, .string e0] 46 (0, 0)) ∧ w.heap.size < w1.heap.size) := fun w1 f1 =>
    ⟨f1.heap hb0 (fun e => e.elim (fun e => by omega) (fun e => by omega)), by have := f1.size; omega⟩
  clear h f0 hb0
  by_cases h4 : c = 4
  · subst h4
    rw [if_pos rfl] at HR
    go_enter Tryz.func29, Tryz.ntmps29
    go_wp2_with fail
    refine K.mono ?_
    rintro x w1 ⟨rfl, r1, f1⟩
    have hlt1 := r1.lt
    obtain ⟨hB1, hBs⟩ := HB.out w1 f1
    have fa : Fr no w1 (w1.alloc (.cells #[.int .i64 4, .string e0] 46)) := (Fr.refl no w1).alloc _ _
    have hA0 := heap_alloc_new w1 (.cells #[.int .i64 4, .string e0] 46)
    have N := dText_any _ p q t (r1.new fa)
    have hB2 := fa.heap hB1 (fun f => f)
    have HFa : Hid (Fr no w1 (w1.alloc (.cells #[.int .i64 4, .string e0] 46))) := fa
    have HF1 : Hid (Fr (PQ p q) w w1) := HF.out.trans f1 (fun _ _ f => f.elim) (fun _ _ e => e)
    have hAB : ¬ w1.heap.size = w.heap.size := by omega
    clear fa f1 hB1
    go_wp2_with fail
    refine N.mono ?_
    rintro x w2 ⟨rfl, r2, f2⟩
    have hA3 := f2.heap hA0 (fun e => e.elim (fun e => by omega) (fun e => by omega))
    have hB3 := f2.heap hB2 (fun e => e.elim (fun e => by omega) (fun e => by omega))
    obtain ⟨a0, a1, az0, az1⟩ := two_cells hA3
    obtain ⟨b0, b1, bz0, bz1⟩ := two_cells hB3
    generalize dX 20 t = r3 at *
    obtain ⟨nm, t3⟩ := r3
    simp only [] at r2 HR ⊢
    clear hA0 hB2 N
    go_wp2_with fail
    have g1 : (w2.setCell ⟨w1.heap.size, 1, none⟩ (.string nm)).heap[w.heap.size]? = some (.cells #[.int .i64 0, .string e0] 46 (0, 0)) := by
      rw [Below.heap_setCell w2 ⟨w1.heap.size, 1, none⟩ _ w.heap.size (by simp; omega)]
      exact hB3
    refine bodyPost_ret (results_29 _ w.heap.size _ _ (two_set g1) _ rfl) rfl ?_
    have FF : Fr (fun k => k = w1.heap.size ∨ k = w.heap.size) w2 (((w2.setCell ⟨w1.heap.size, 1, none⟩ (.string nm)).setCell ⟨w.heap.size, 0, none⟩ (.int .i64 4)).setCell ⟨w.heap.size, 1, none⟩ (.string nm)) :=
      (((Fr.refl _ w2).setCell (p := ⟨w1.heap.size, 1, none⟩) (fun _ => .inl rfl) _).setCell (p := ⟨w.heap.size, 0, none⟩) (fun _ => .inr rfl) _).setCell (p := ⟨w.heap.size, 1, none⟩) (fun _ => .inr rfl) _
    rw [HR.out]
    refine ⟨rfl, r2.away (fun k hk => ?_) FF, ?_⟩
    · rcases hk with rfl | rfl
      · exact ⟨by omega, by omega, fun cur t fz hc => by rw [hA3] at hc; simp only [Option.some.injEq, Obj.cells.injEq] at hc; rw [← hc.1]; exact nob2 (nob_int _) (nob_str _)⟩
      · exact ⟨by omega, by omega, fun cur t fz hc => by rw [hB3] at hc; simp only [Option.some.injEq, Obj.cells.injEq] at hc; rw [← hc.1]; exact nob2 (nob_int _) (nob_str _)⟩
    · exact ((HF1.out.trans HFa.out (fun _ _ e => e) (fun _ _ f => f.elim)).trans f2 (fun _ _ e => e) (fun _ _ e => e)).trans FF (fun _ _ e => e) (fun i hi e => by have := HF1.out.size; rcases e with e | e <;> omega)
  · rw [if_neg h4] at HR
    have h4' : ((c : Int) == 4) = false := by simp; omega
    have hwc : IntKind.i64.wrap (c : Int) = (c : Int) := by simp [IntKind.wrap, IntKind.signed, IntKind.bits]; omega
    go_enter Tryz.func29, Tryz.ntmps29
    go_wp2_with fail
    refine K.mono ?_
    rintro x w1 ⟨rfl, r1, f1⟩
    have hlt1 := r1.lt
    obtain ⟨hB1, hBs⟩ := HB.out w1 f1
    obtain ⟨b0, b1, bz0, bz1⟩ := two_cells hB1
    have HF1 : Hid (Fr (PQ p q) w w1) := HF.out.trans f1 (fun _ _ f => f.elim) (fun _ _ e => e)
    have hAB : ¬ w1.heap.size = w.heap.size := by omega
    clear f1
    go_wp2_with fail
    refine bodyPost_ret (results_29 _ w.heap.size _ _ (((Fr.refl no _).alloc _ _).heap (two_set hB1) (fun f => f)) _ rfl) rfl ?_
    have FF := fr_chain2 w1 w.heap.size (.int .i64 (c : Int)) (.string e0)
    rw [HR.out]
    refine ⟨rfl, (r1.away (fun k hk => ?_) FF).new ((Fr.refl no _).alloc _ _), ?_⟩
    · subst hk
      exact ⟨by omega, by omega, fun cur t fz hc => by rw [hB1] at hc; simp only [Option.some.injEq, Obj.cells.injEq] at hc; rw [← hc.1]; exact nob2 (nob_int _) (nob_str _)⟩
    · exact (HF1.out.trans FF (fun _ _ e => e) (fun i hi e => by omega)).alloc _ _

/-- A constant, read. -/
def dCs (s : List Nat × Bool) : Cs × (List Nat × Bool) :=
  if (dB s).1 = 1 then (⟨1, (dI (dB s).2).1, 0, 0, e0, e0⟩, (dI (dB s).2).2)
  else if (dB s).1 = 2 then (⟨2, 0, (dC (dB s).2).1.1, (dC (dB s).2).1.2, e0, e0⟩, (dC (dB s).2).2)
  else if (dB s).1 = 3 then (⟨3, 0, 0, 0, (dX 20 (dB s).2).1, e0⟩, (dX 20 (dB s).2).2)
  else (⟨((dB s).1 : Int), 0, 0, 0, (dX 20 (dB s).2).1, (dX 20 (dX 20 (dB s).2).2).1⟩, (dX 20 (dX 20 (dB s).2).2).2)

theorem fr_two (w : World) (A B j i : Nat) (v u : Value) : Fr (fun k => k = A ∨ k = B) w ((w.setCell ⟨A, j, none⟩ v).setCell ⟨B, i, none⟩ u) := ((Fr.refl (fun k => k = A ∨ k = B) w).setCell (p := ⟨A, j, none⟩) (fun _ => .inl rfl) v).setCell (p := ⟨B, i, none⟩) (fun _ => .inr rfl) u

set_option maxRecDepth 100000 in
set_option maxHeartbeats 8000000 in
theorem dConst_any (w : World) (p q : Nat) (s : List Nat × Bool) (h : DS w p q s) :
    Calls Tryz.prog 28 #[.pointer (some ⟨p, 0, none⟩)] w fun x w' => x = .returned (.agg #[.int .i64 (dCs s).1.k, .int .i64 (dCs s).1.n, .complex .f64 (dCs s).1.re (dCs s).1.im, .string (dCs s).1.c, .string (dCs s).1.m]) ∧ DS w' p q (dCs s).2 ∧ Fr (PQ p q) w w' := by
  have f0 : Fr no w (w.alloc (.cells #[.int .i64 0, .int .i64 0, .complex .f64 0 0, .string e0, .string e0] 39)) := (Fr.refl no w).alloc _ _
  have hb0 := heap_alloc_new w (.cells #[.int .i64 0, .int .i64 0, .complex .f64 0 0, .string e0, .string e0] 39)
  have K := dByt_any _ p q s (h.new f0)
  have HR : Hid (dCs s = if (dB s).1 = 1 then (⟨1, (dI (dB s).2).1, 0, 0, e0, e0⟩, (dI (dB s).2).2)
  else if (dB s).1 = 2 then (⟨2, 0, (dC (dB s).2).1.1, (dC (dB s).2).1.2, e0, e0⟩, (dC (dB s).2).2)
  else if (dB s).1 = 3 then (⟨3, 0, 0, 0, (dX 20 (dB s).2).1, e0⟩, (dX 20 (dB s).2).2)
  else (⟨((dB s).1 : Int), 0, 0, 0, (dX 20 (dB s).2).1, (dX 20 (dX 20 (dB s).2).2).1⟩, (dX 20 (dX 20 (dB s).2).2).2)) := rfl
  have hlt := h.lt
  have hc256 := dB_lt h
  have HF : Hid (Fr no w (w.alloc (.cells #[.int .i64 0, .int .i64 0, .complex .f64 0 0, .string e0, .string e0] 39))) := f0
  have hsz : (w.alloc (.cells #[.int .i64 0, .int .i64 0, .complex .f64 0 0, .string e0, .string e0] 39)).heap.size = w.heap.size + 1 := size_alloc _ _
  generalize dCs s = r at *
  generalize dB s = t at *
  obtain ⟨c, ⟨l, b⟩⟩ := t
  simp only [] at K HR hc256
  have HB : Hid (∀ w1, Fr (PQ p q) (w.alloc (.cells #[.int .i64 0, .int .i64 0, .complex .f64 0 0, .string e0, .string e0] 39)) w1 → w1.heap[w.heap.size]? = some (.cells #[.int .i64 0, .int .i64 0, .complex .f64 0 0, .string e0, .string e0] 39 (0, 0)) ∧ w.heap.size < w1.heap.size) := fun w1 f1 =>
    ⟨f1.heap hb0 (fun e => e.elim (fun e => by omega) (fun e => by omega)), by have := f1.size; omega⟩
  have hwc : IntKind.i64.wrap (c : Int) = (c : Int) := by simp [IntKind.wrap, IntKind.signed, IntKind.bits]; omega
  have hstc := run_store_cx
  have hpq := h.ne
  clear h f0 hb0
  by_cases hk : c = 1
  · rw [if_pos hk] at HR
    subst hk
    go_enter Tryz.func28, Tryz.ntmps28
    go_wp2_with fail
    refine K.mono ?_
    rintro x w1 ⟨rfl, r1, f1⟩
    have hlt1 := r1.lt
    obtain ⟨hB1, hBs⟩ := HB.out w1 f1
    have HF1 : Hid (Fr (PQ p q) w w1) := HF.out.trans f1 (fun _ _ f => f.elim) (fun _ _ e => e)
    have hAB : ¬ w1.heap.size = w.heap.size := by omega
    have fa : Fr no w1 (w1.alloc (.cells #[.int .i64 1, .int .i64 0, .complex .f64 0 0, .string ⟨#[]⟩, .string ⟨#[]⟩] 39)) := (Fr.refl no w1).alloc _ _
    have hA0 := heap_alloc_new w1 (.cells #[.int .i64 1, .int .i64 0, .complex .f64 0 0, .string ⟨#[]⟩, .string ⟨#[]⟩] 39)
    have ra : DS _ p q (l, b) := r1.new fa
    have hB2 := fa.heap hB1 (fun f => f)
    have HFa : Hid (Fr no w1 (w1.alloc (.cells #[.int .i64 1, .int .i64 0, .complex .f64 0 0, .string ⟨#[]⟩, .string ⟨#[]⟩] 39))) := fa
    clear fa f1 hB1
    obtain ⟨d0, d1, dz⟩ := ra.cells
    obtain ⟨c0, c1, cz⟩ := r1.cells
    simp only [] at d1 c1
    have U := docInt_any _ q l ra.rd ra.by_ ra.ln
    have HD : dI (l, b) = (unf (rd l 0 0).1, (l.drop (rd l 0 0).2.2, b || decide ((rd l 0 0).2.1 ≠ 0))) := rfl
    rw [HD] at HR
    clear HD
    have HS : Hid (∀ w2 k, Rd 78 w2 q (l.drop k) → Fr (fun i => i = q) (w1.alloc (.cells #[.int .i64 1, .int .i64 0, .complex .f64 0 0, .string ⟨#[]⟩, .string ⟨#[]⟩] 39)) w2 → DS w2 p q (l.drop k, b)) := fun w2 k g1 g2 => ra.stepq g1 g2 (bytes_drop ra.by_ k) (len_drop ra.ln k)
    clear ra
    generalize rd l 0 0 = t3 at *
    obtain ⟨nn, x, kk⟩ := t3
    simp only [] at HR U
    cases b with
    | true =>
      simp only [Bool.true_or] at HR
      go_wp2_with fail
      refine U.mono ?_
      rintro e w2 ⟨rfl, g1, g2⟩
      have r2 := HS.out w2 _ g1 g2
      have hA3 := g2.heap hA0 (fun e => by omega)
      have hB3 := g2.heap hB2 (fun e => by omega)
      have HF2 : Hid (Fr (PQ p q) w w2) := (HF1.out.trans HFa.out (fun _ _ e => e) (fun _ _ f => f.elim)).trans g2 (fun _ _ e => e) (fun _ _ e => .inr e)
      clear d0 d1 dz c0 c1 cz
      have rv : DS (w2.setCell ⟨w1.heap.size, 1, none⟩ (.int .i64 (unf nn))) p q (l.drop kk, true) := r2.away (fun k hk => by subst hk; exact ⟨by omega, by omega, nob_block hA3 (nobs5 (nob_int _) (nob_int _) (nob_cx _ _) (nob_str _) (nob_str _))⟩) (fr_one w2 w1.heap.size 1 (.int .i64 (unf nn)))
      have hAv : (w2.setCell ⟨w1.heap.size, 1, none⟩ (.int .i64 (unf nn))).heap[w1.heap.size]? = some (.cells #[.int .i64 1, .int .i64 (unf nn), .complex .f64 0 0, .string e0, .string e0] 39 (0, 0)) := set_at hA3 1 _
      have hBv := (fr_one w2 w1.heap.size 1 (.int .i64 (unf nn))).heap hB3 (fun e => by omega)
      have HFv : Hid (Fr (PQ p q) w (w2.setCell ⟨w1.heap.size, 1, none⟩ (.int .i64 (unf nn)))) := HF2.out.trans (fr_one w2 w1.heap.size 1 (.int .i64 (unf nn))) (fun _ _ e => e) (fun i hi e => by have := HF1.out.size; omega)
      obtain ⟨⟨a0, a1, a2, a3, a4⟩, az0, az1, az2, az3, az4⟩ := cells5z hA3
      generalize hV : w2.setCell ⟨w1.heap.size, 1, none⟩ (.int .i64 (unf nn)) = V at *
      obtain ⟨d0, d1, dz⟩ := rv.cells
      simp only [] at d1
      have SB := rv.set true
      have hA5 := SB.2.heap hAv (fun e => by omega)
      have hB5 := SB.2.heap hBv (fun e => by omega)
      have HF5 : Hid (Fr (PQ p q) w (V.setCell ⟨p, 1, none⟩ (.bool true))) := HFv.out.trans SB.2 (fun _ _ e => e) (fun _ _ e => .inl e)
      have r5 := SB.1
      simp only [] at r5
      clear SB
      generalize hU : V.setCell ⟨p, 1, none⟩ (.bool true) = U at *
      obtain ⟨⟨e0a, e1a, e2a, e3a, e4a⟩, -⟩ := cells5z hA5
      obtain ⟨⟨b0, b1, b2, b3, b4⟩, bz0, bz1, bz2, bz3, bz4⟩ := cells5z hB5
      go_wp2_with fail
      refine bodyPost_ret (results_28 _ w.heap.size _ _ _ _ _ (set_chain5 hB5) _ rfl) rfl ?_
      have FF := fr_chain5 U w.heap.size (.int .i64 1) (.int .i64 (unf nn)) (.complex .f64 0 0) (.string e0) (.string e0)
      rw [HR.out]
      refine ⟨rfl, r5.away (fun k hk => by subst hk; exact ⟨by omega, by omega, nob_block hB5 (nobs5 (nob_int _) (nob_int _) (nob_cx _ _) (nob_str _) (nob_str _))⟩) FF, HF5.out.trans FF (fun _ _ e => e) (fun i hi e => by omega)⟩
    | false =>
      simp only [Bool.false_or] at HR
      by_cases hx : x = 0
      · subst hx
        rw [show decide ((0 : Nat) ≠ 0) = false from rfl] at HR
        go_wp2_with fail
        refine U.mono ?_
        rintro e w2 ⟨rfl, g1, g2⟩
        have r2 := HS.out w2 _ g1 g2
        have hA3 := g2.heap hA0 (fun e => by omega)
        have hB3 := g2.heap hB2 (fun e => by omega)
        have HF2 : Hid (Fr (PQ p q) w w2) := (HF1.out.trans HFa.out (fun _ _ e => e) (fun _ _ f => f.elim)).trans g2 (fun _ _ e => e) (fun _ _ e => .inr e)
        clear d0 d1 dz c0 c1 cz
        have rv : DS (w2.setCell ⟨w1.heap.size, 1, none⟩ (.int .i64 (unf nn))) p q (l.drop kk, false) := r2.away (fun k hk => by subst hk; exact ⟨by omega, by omega, nob_block hA3 (nobs5 (nob_int _) (nob_int _) (nob_cx _ _) (nob_str _) (nob_str _))⟩) (fr_one w2 w1.heap.size 1 (.int .i64 (unf nn)))
        have hAv : (w2.setCell ⟨w1.heap.size, 1, none⟩ (.int .i64 (unf nn))).heap[w1.heap.size]? = some (.cells #[.int .i64 1, .int .i64 (unf nn), .complex .f64 0 0, .string e0, .string e0] 39 (0, 0)) := set_at hA3 1 _
        have hBv := (fr_one w2 w1.heap.size 1 (.int .i64 (unf nn))).heap hB3 (fun e => by omega)
        have HFv : Hid (Fr (PQ p q) w (w2.setCell ⟨w1.heap.size, 1, none⟩ (.int .i64 (unf nn)))) := HF2.out.trans (fr_one w2 w1.heap.size 1 (.int .i64 (unf nn))) (fun _ _ e => e) (fun i hi e => by have := HF1.out.size; omega)
        obtain ⟨⟨a0, a1, a2, a3, a4⟩, az0, az1, az2, az3, az4⟩ := cells5z hA3
        generalize hV : w2.setCell ⟨w1.heap.size, 1, none⟩ (.int .i64 (unf nn)) = V at *
        obtain ⟨d0, d1, dz⟩ := rv.cells
        simp only [] at d1
        have SB := rv.set false
        have hA5 := SB.2.heap hAv (fun e => by omega)
        have hB5 := SB.2.heap hBv (fun e => by omega)
        have HF5 : Hid (Fr (PQ p q) w (V.setCell ⟨p, 1, none⟩ (.bool false))) := HFv.out.trans SB.2 (fun _ _ e => e) (fun _ _ e => .inl e)
        have r5 := SB.1
        simp only [] at r5
        clear SB
        generalize hU : V.setCell ⟨p, 1, none⟩ (.bool false) = U at *
        obtain ⟨⟨e0a, e1a, e2a, e3a, e4a⟩, -⟩ := cells5z hA5
        obtain ⟨⟨b0, b1, b2, b3, b4⟩, bz0, bz1, bz2, bz3, bz4⟩ := cells5z hB5
        go_wp2_with fail
        refine bodyPost_ret (results_28 _ w.heap.size _ _ _ _ _ (set_chain5 hB5) _ rfl) rfl ?_
        have FF := fr_chain5 U w.heap.size (.int .i64 1) (.int .i64 (unf nn)) (.complex .f64 0 0) (.string e0) (.string e0)
        rw [HR.out]
        refine ⟨rfl, r5.away (fun k hk => by subst hk; exact ⟨by omega, by omega, nob_block hB5 (nobs5 (nob_int _) (nob_int _) (nob_cx _ _) (nob_str _) (nob_str _))⟩) FF, HF5.out.trans FF (fun _ _ e => e) (fun i hi e => by omega)⟩
      · have hx1 : ((x : Int) == 0) = false := by simp; omega
        have hx2 : ((x : Int) != 0) = true := by simp; omega
        rw [decide_eq_true hx] at HR
        go_wp2_with fail
        refine U.mono ?_
        rintro e w2 ⟨rfl, g1, g2⟩
        have r2 := HS.out w2 _ g1 g2
        have hA3 := g2.heap hA0 (fun e => by omega)
        have hB3 := g2.heap hB2 (fun e => by omega)
        have HF2 : Hid (Fr (PQ p q) w w2) := (HF1.out.trans HFa.out (fun _ _ e => e) (fun _ _ f => f.elim)).trans g2 (fun _ _ e => e) (fun _ _ e => .inr e)
        clear d0 d1 dz c0 c1 cz
        have rv : DS (w2.setCell ⟨w1.heap.size, 1, none⟩ (.int .i64 (unf nn))) p q (l.drop kk, false) := r2.away (fun k hk => by subst hk; exact ⟨by omega, by omega, nob_block hA3 (nobs5 (nob_int _) (nob_int _) (nob_cx _ _) (nob_str _) (nob_str _))⟩) (fr_one w2 w1.heap.size 1 (.int .i64 (unf nn)))
        have hAv : (w2.setCell ⟨w1.heap.size, 1, none⟩ (.int .i64 (unf nn))).heap[w1.heap.size]? = some (.cells #[.int .i64 1, .int .i64 (unf nn), .complex .f64 0 0, .string e0, .string e0] 39 (0, 0)) := set_at hA3 1 _
        have hBv := (fr_one w2 w1.heap.size 1 (.int .i64 (unf nn))).heap hB3 (fun e => by omega)
        have HFv : Hid (Fr (PQ p q) w (w2.setCell ⟨w1.heap.size, 1, none⟩ (.int .i64 (unf nn)))) := HF2.out.trans (fr_one w2 w1.heap.size 1 (.int .i64 (unf nn))) (fun _ _ e => e) (fun i hi e => by have := HF1.out.size; omega)
        obtain ⟨⟨a0, a1, a2, a3, a4⟩, az0, az1, az2, az3, az4⟩ := cells5z hA3
        generalize hV : w2.setCell ⟨w1.heap.size, 1, none⟩ (.int .i64 (unf nn)) = V at *
        obtain ⟨d0, d1, dz⟩ := rv.cells
        simp only [] at d1
        have SB := rv.set true
        have hA5 := SB.2.heap hAv (fun e => by omega)
        have hB5 := SB.2.heap hBv (fun e => by omega)
        have HF5 : Hid (Fr (PQ p q) w (V.setCell ⟨p, 1, none⟩ (.bool true))) := HFv.out.trans SB.2 (fun _ _ e => e) (fun _ _ e => .inl e)
        have r5 := SB.1
        simp only [] at r5
        clear SB
        generalize hU : V.setCell ⟨p, 1, none⟩ (.bool true) = U at *
        obtain ⟨⟨e0a, e1a, e2a, e3a, e4a⟩, -⟩ := cells5z hA5
        obtain ⟨⟨b0, b1, b2, b3, b4⟩, bz0, bz1, bz2, bz3, bz4⟩ := cells5z hB5
        go_wp2_with fail
        refine bodyPost_ret (results_28 _ w.heap.size _ _ _ _ _ (set_chain5 hB5) _ rfl) rfl ?_
        have FF := fr_chain5 U w.heap.size (.int .i64 1) (.int .i64 (unf nn)) (.complex .f64 0 0) (.string e0) (.string e0)
        rw [HR.out]
        refine ⟨rfl, r5.away (fun k hk => by subst hk; exact ⟨by omega, by omega, nob_block hB5 (nobs5 (nob_int _) (nob_int _) (nob_cx _ _) (nob_str _) (nob_str _))⟩) FF, HF5.out.trans FF (fun _ _ e => e) (fun i hi e => by omega)⟩
  rw [if_neg hk] at HR
  have k1 : ((c : Int) == 1) = false := by simp; omega
  clear hk
  by_cases hk : c = 2
  · rw [if_pos hk] at HR
    subst hk
    go_enter Tryz.func28, Tryz.ntmps28
    go_wp2_with fail
    refine K.mono ?_
    rintro x w1 ⟨rfl, r1, f1⟩
    have hlt1 := r1.lt
    obtain ⟨hB1, hBs⟩ := HB.out w1 f1
    have HF1 : Hid (Fr (PQ p q) w w1) := HF.out.trans f1 (fun _ _ f => f.elim) (fun _ _ e => e)
    have hAB : ¬ w1.heap.size = w.heap.size := by omega
    have fa : Fr no w1 (w1.alloc (.cells #[.int .i64 2, .int .i64 0, .complex .f64 0 0, .string ⟨#[]⟩, .string ⟨#[]⟩] 39)) := (Fr.refl no w1).alloc _ _
    have hA0 := heap_alloc_new w1 (.cells #[.int .i64 2, .int .i64 0, .complex .f64 0 0, .string ⟨#[]⟩, .string ⟨#[]⟩] 39)
    have ra : DS _ p q (l, b) := r1.new fa
    have hB2 := fa.heap hB1 (fun f => f)
    have HFa : Hid (Fr no w1 (w1.alloc (.cells #[.int .i64 2, .int .i64 0, .complex .f64 0 0, .string ⟨#[]⟩, .string ⟨#[]⟩] 39))) := fa
    clear fa f1 hB1
    obtain ⟨d0, d1, dz⟩ := ra.cells
    obtain ⟨c0, c1, cz⟩ := r1.cells
    simp only [] at d1 c1
    have U := docCplx_any _ q l ra.rd ra.by_ ra.ln
    have HD : dC (l, b) = (((cxd l).1, (cxd l).2.1), (l.drop (cxd l).2.2.2, b || decide ((cxd l).2.2.1 ≠ 0))) := rfl
    rw [HD] at HR
    clear HD
    have HS : Hid (∀ w2 k, Rd 78 w2 q (l.drop k) → Fr (fun i => i = q) (w1.alloc (.cells #[.int .i64 2, .int .i64 0, .complex .f64 0 0, .string ⟨#[]⟩, .string ⟨#[]⟩] 39)) w2 → DS w2 p q (l.drop k, b)) := fun w2 k g1 g2 => ra.stepq g1 g2 (bytes_drop ra.by_ k) (len_drop ra.ln k)
    clear ra
    generalize cxd l = t3 at *
    obtain ⟨n1, n2, x, kk⟩ := t3
    simp only [] at HR U
    cases b with
    | true =>
      simp only [Bool.true_or] at HR
      go_wp2_with fail
      refine U.mono ?_
      rintro e w2 ⟨rfl, g1, g2⟩
      have r2 := HS.out w2 _ g1 g2
      have hA3 := g2.heap hA0 (fun e => by omega)
      have hB3 := g2.heap hB2 (fun e => by omega)
      have HF2 : Hid (Fr (PQ p q) w w2) := (HF1.out.trans HFa.out (fun _ _ e => e) (fun _ _ f => f.elim)).trans g2 (fun _ _ e => e) (fun _ _ e => .inr e)
      clear d0 d1 dz c0 c1 cz
      have rv : DS (w2.setCell ⟨w1.heap.size, 2, none⟩ (.complex .f64 n1 n2)) p q (l.drop kk, true) := r2.away (fun k hk => by subst hk; exact ⟨by omega, by omega, nob_block hA3 (nobs5 (nob_int _) (nob_int _) (nob_cx _ _) (nob_str _) (nob_str _))⟩) (fr_one w2 w1.heap.size 2 (.complex .f64 n1 n2))
      have hAv : (w2.setCell ⟨w1.heap.size, 2, none⟩ (.complex .f64 n1 n2)).heap[w1.heap.size]? = some (.cells #[.int .i64 2, .int .i64 0, .complex .f64 n1 n2, .string e0, .string e0] 39 (0, 0)) := set_at hA3 2 _
      have hBv := (fr_one w2 w1.heap.size 2 (.complex .f64 n1 n2)).heap hB3 (fun e => by omega)
      have HFv : Hid (Fr (PQ p q) w (w2.setCell ⟨w1.heap.size, 2, none⟩ (.complex .f64 n1 n2))) := HF2.out.trans (fr_one w2 w1.heap.size 2 (.complex .f64 n1 n2)) (fun _ _ e => e) (fun i hi e => by have := HF1.out.size; omega)
      obtain ⟨⟨a0, a1, a2, a3, a4⟩, az0, az1, az2, az3, az4⟩ := cells5z hA3
      generalize hV : w2.setCell ⟨w1.heap.size, 2, none⟩ (.complex .f64 n1 n2) = V at *
      obtain ⟨d0, d1, dz⟩ := rv.cells
      simp only [] at d1
      have SB := rv.set true
      have hA5 := SB.2.heap hAv (fun e => by omega)
      have hB5 := SB.2.heap hBv (fun e => by omega)
      have HF5 : Hid (Fr (PQ p q) w (V.setCell ⟨p, 1, none⟩ (.bool true))) := HFv.out.trans SB.2 (fun _ _ e => e) (fun _ _ e => .inl e)
      have r5 := SB.1
      simp only [] at r5
      clear SB
      generalize hU : V.setCell ⟨p, 1, none⟩ (.bool true) = U at *
      obtain ⟨⟨e0a, e1a, e2a, e3a, e4a⟩, -⟩ := cells5z hA5
      obtain ⟨⟨b0, b1, b2, b3, b4⟩, bz0, bz1, bz2, bz3, bz4⟩ := cells5z hB5
      go_wp2_with fail
      refine bodyPost_ret (results_28 _ w.heap.size _ _ _ _ _ (set_chain5 hB5) _ rfl) rfl ?_
      have FF := fr_chain5 U w.heap.size (.int .i64 2) (.int .i64 0) (.complex .f64 n1 n2) (.string e0) (.string e0)
      rw [HR.out]
      refine ⟨rfl, r5.away (fun k hk => by subst hk; exact ⟨by omega, by omega, nob_block hB5 (nobs5 (nob_int _) (nob_int _) (nob_cx _ _) (nob_str _) (nob_str _))⟩) FF, HF5.out.trans FF (fun _ _ e => e) (fun i hi e => by omega)⟩
    | false =>
      simp only [Bool.false_or] at HR
      by_cases hx : x = 0
      · subst hx
        rw [show decide ((0 : Nat) ≠ 0) = false from rfl] at HR
        go_wp2_with fail
        refine U.mono ?_
        rintro e w2 ⟨rfl, g1, g2⟩
        have r2 := HS.out w2 _ g1 g2
        have hA3 := g2.heap hA0 (fun e => by omega)
        have hB3 := g2.heap hB2 (fun e => by omega)
        have HF2 : Hid (Fr (PQ p q) w w2) := (HF1.out.trans HFa.out (fun _ _ e => e) (fun _ _ f => f.elim)).trans g2 (fun _ _ e => e) (fun _ _ e => .inr e)
        clear d0 d1 dz c0 c1 cz
        have rv : DS (w2.setCell ⟨w1.heap.size, 2, none⟩ (.complex .f64 n1 n2)) p q (l.drop kk, false) := r2.away (fun k hk => by subst hk; exact ⟨by omega, by omega, nob_block hA3 (nobs5 (nob_int _) (nob_int _) (nob_cx _ _) (nob_str _) (nob_str _))⟩) (fr_one w2 w1.heap.size 2 (.complex .f64 n1 n2))
        have hAv : (w2.setCell ⟨w1.heap.size, 2, none⟩ (.complex .f64 n1 n2)).heap[w1.heap.size]? = some (.cells #[.int .i64 2, .int .i64 0, .complex .f64 n1 n2, .string e0, .string e0] 39 (0, 0)) := set_at hA3 2 _
        have hBv := (fr_one w2 w1.heap.size 2 (.complex .f64 n1 n2)).heap hB3 (fun e => by omega)
        have HFv : Hid (Fr (PQ p q) w (w2.setCell ⟨w1.heap.size, 2, none⟩ (.complex .f64 n1 n2))) := HF2.out.trans (fr_one w2 w1.heap.size 2 (.complex .f64 n1 n2)) (fun _ _ e => e) (fun i hi e => by have := HF1.out.size; omega)
        obtain ⟨⟨a0, a1, a2, a3, a4⟩, az0, az1, az2, az3, az4⟩ := cells5z hA3
        generalize hV : w2.setCell ⟨w1.heap.size, 2, none⟩ (.complex .f64 n1 n2) = V at *
        obtain ⟨d0, d1, dz⟩ := rv.cells
        simp only [] at d1
        have SB := rv.set false
        have hA5 := SB.2.heap hAv (fun e => by omega)
        have hB5 := SB.2.heap hBv (fun e => by omega)
        have HF5 : Hid (Fr (PQ p q) w (V.setCell ⟨p, 1, none⟩ (.bool false))) := HFv.out.trans SB.2 (fun _ _ e => e) (fun _ _ e => .inl e)
        have r5 := SB.1
        simp only [] at r5
        clear SB
        generalize hU : V.setCell ⟨p, 1, none⟩ (.bool false) = U at *
        obtain ⟨⟨e0a, e1a, e2a, e3a, e4a⟩, -⟩ := cells5z hA5
        obtain ⟨⟨b0, b1, b2, b3, b4⟩, bz0, bz1, bz2, bz3, bz4⟩ := cells5z hB5
        go_wp2_with fail
        refine bodyPost_ret (results_28 _ w.heap.size _ _ _ _ _ (set_chain5 hB5) _ rfl) rfl ?_
        have FF := fr_chain5 U w.heap.size (.int .i64 2) (.int .i64 0) (.complex .f64 n1 n2) (.string e0) (.string e0)
        rw [HR.out]
        refine ⟨rfl, r5.away (fun k hk => by subst hk; exact ⟨by omega, by omega, nob_block hB5 (nobs5 (nob_int _) (nob_int _) (nob_cx _ _) (nob_str _) (nob_str _))⟩) FF, HF5.out.trans FF (fun _ _ e => e) (fun i hi e => by omega)⟩
      · have hx1 : ((x : Int) == 0) = false := by simp; omega
        have hx2 : ((x : Int) != 0) = true := by simp; omega
        rw [decide_eq_true hx] at HR
        go_wp2_with fail
        refine U.mono ?_
        rintro e w2 ⟨rfl, g1, g2⟩
        have r2 := HS.out w2 _ g1 g2
        have hA3 := g2.heap hA0 (fun e => by omega)
        have hB3 := g2.heap hB2 (fun e => by omega)
        have HF2 : Hid (Fr (PQ p q) w w2) := (HF1.out.trans HFa.out (fun _ _ e => e) (fun _ _ f => f.elim)).trans g2 (fun _ _ e => e) (fun _ _ e => .inr e)
        clear d0 d1 dz c0 c1 cz
        have rv : DS (w2.setCell ⟨w1.heap.size, 2, none⟩ (.complex .f64 n1 n2)) p q (l.drop kk, false) := r2.away (fun k hk => by subst hk; exact ⟨by omega, by omega, nob_block hA3 (nobs5 (nob_int _) (nob_int _) (nob_cx _ _) (nob_str _) (nob_str _))⟩) (fr_one w2 w1.heap.size 2 (.complex .f64 n1 n2))
        have hAv : (w2.setCell ⟨w1.heap.size, 2, none⟩ (.complex .f64 n1 n2)).heap[w1.heap.size]? = some (.cells #[.int .i64 2, .int .i64 0, .complex .f64 n1 n2, .string e0, .string e0] 39 (0, 0)) := set_at hA3 2 _
        have hBv := (fr_one w2 w1.heap.size 2 (.complex .f64 n1 n2)).heap hB3 (fun e => by omega)
        have HFv : Hid (Fr (PQ p q) w (w2.setCell ⟨w1.heap.size, 2, none⟩ (.complex .f64 n1 n2))) := HF2.out.trans (fr_one w2 w1.heap.size 2 (.complex .f64 n1 n2)) (fun _ _ e => e) (fun i hi e => by have := HF1.out.size; omega)
        obtain ⟨⟨a0, a1, a2, a3, a4⟩, az0, az1, az2, az3, az4⟩ := cells5z hA3
        generalize hV : w2.setCell ⟨w1.heap.size, 2, none⟩ (.complex .f64 n1 n2) = V at *
        obtain ⟨d0, d1, dz⟩ := rv.cells
        simp only [] at d1
        have SB := rv.set true
        have hA5 := SB.2.heap hAv (fun e => by omega)
        have hB5 := SB.2.heap hBv (fun e => by omega)
        have HF5 : Hid (Fr (PQ p q) w (V.setCell ⟨p, 1, none⟩ (.bool true))) := HFv.out.trans SB.2 (fun _ _ e => e) (fun _ _ e => .inl e)
        have r5 := SB.1
        simp only [] at r5
        clear SB
        generalize hU : V.setCell ⟨p, 1, none⟩ (.bool true) = U at *
        obtain ⟨⟨e0a, e1a, e2a, e3a, e4a⟩, -⟩ := cells5z hA5
        obtain ⟨⟨b0, b1, b2, b3, b4⟩, bz0, bz1, bz2, bz3, bz4⟩ := cells5z hB5
        go_wp2_with fail
        refine bodyPost_ret (results_28 _ w.heap.size _ _ _ _ _ (set_chain5 hB5) _ rfl) rfl ?_
        have FF := fr_chain5 U w.heap.size (.int .i64 2) (.int .i64 0) (.complex .f64 n1 n2) (.string e0) (.string e0)
        rw [HR.out]
        refine ⟨rfl, r5.away (fun k hk => by subst hk; exact ⟨by omega, by omega, nob_block hB5 (nobs5 (nob_int _) (nob_int _) (nob_cx _ _) (nob_str _) (nob_str _))⟩) FF, HF5.out.trans FF (fun _ _ e => e) (fun i hi e => by omega)⟩
  rw [if_neg hk] at HR
  have k2 : ((c : Int) == 2) = false := by simp; omega
  clear hk
  by_cases hk : c = 3
  · rw [if_pos hk] at HR
    subst hk
    go_enter Tryz.func28, Tryz.ntmps28
    go_wp2_with fail
    refine K.mono ?_
    rintro x w1 ⟨rfl, r1, f1⟩
    have hlt1 := r1.lt
    obtain ⟨hB1, hBs⟩ := HB.out w1 f1
    have HF1 : Hid (Fr (PQ p q) w w1) := HF.out.trans f1 (fun _ _ f => f.elim) (fun _ _ e => e)
    have hAB : ¬ w1.heap.size = w.heap.size := by omega
    have fa : Fr no w1 (w1.alloc (.cells #[.int .i64 3, .int .i64 0, .complex .f64 0 0, .string ⟨#[]⟩, .string ⟨#[]⟩] 39)) := (Fr.refl no w1).alloc _ _
    have hA0 := heap_alloc_new w1 (.cells #[.int .i64 3, .int .i64 0, .complex .f64 0 0, .string ⟨#[]⟩, .string ⟨#[]⟩] 39)
    have ra : DS _ p q (l, b) := r1.new fa
    have hB2 := fa.heap hB1 (fun f => f)
    have HFa : Hid (Fr no w1 (w1.alloc (.cells #[.int .i64 3, .int .i64 0, .complex .f64 0 0, .string ⟨#[]⟩, .string ⟨#[]⟩] 39))) := fa
    clear fa f1 hB1
    obtain ⟨d0, d1, dz⟩ := ra.cells
    obtain ⟨c0, c1, cz⟩ := r1.cells
    simp only [] at d1 c1
    have U := dText_any _ p q (l, b) ra
    generalize dX 20 (l, b) = t3 at *
    obtain ⟨nm, ⟨l3, b3⟩⟩ := t3
    simp only [] at HR U
    clear ra
    go_wp2_with fail
    refine U.mono ?_
    rintro e w2 ⟨rfl, r2, g2⟩
    have hA3 := g2.heap hA0 (fun e => e.elim (fun e => by omega) (fun e => by omega))
    have hB3 := g2.heap hB2 (fun e => e.elim (fun e => by omega) (fun e => by omega))
    have HF2 : Hid (Fr (PQ p q) w w2) := (HF1.out.trans HFa.out (fun _ _ e => e) (fun _ _ f => f.elim)).trans g2 (fun _ _ e => e) (fun _ _ e => e)
    clear d0 d1 dz c0 c1 cz
    have rv : DS (w2.setCell ⟨w1.heap.size, 3, none⟩ (.string nm)) p q (l3, b3) := r2.away (fun k hk => by subst hk; exact ⟨by omega, by omega, nob_block hA3 (nobs5 (nob_int _) (nob_int _) (nob_cx _ _) (nob_str _) (nob_str _))⟩) (fr_one w2 w1.heap.size 3 (.string nm))
    have hAv : (w2.setCell ⟨w1.heap.size, 3, none⟩ (.string nm)).heap[w1.heap.size]? = some (.cells #[.int .i64 3, .int .i64 0, .complex .f64 0 0, .string nm, .string e0] 39 (0, 0)) := set_at hA3 3 _
    have hBv := (fr_one w2 w1.heap.size 3 (.string nm)).heap hB3 (fun e => by omega)
    have HFv : Hid (Fr (PQ p q) w (w2.setCell ⟨w1.heap.size, 3, none⟩ (.string nm))) := HF2.out.trans (fr_one w2 w1.heap.size 3 (.string nm)) (fun _ _ e => e) (fun i hi e => by have := HF1.out.size; omega)
    obtain ⟨⟨a0, a1, a2, a3, a4⟩, az0, az1, az2, az3, az4⟩ := cells5z hA3
    generalize hV : w2.setCell ⟨w1.heap.size, 3, none⟩ (.string nm) = V at *
    obtain ⟨⟨v0, v1, v2, v3, v4⟩, -⟩ := cells5z hAv
    cases b3 with
    | true =>
      obtain ⟨d0, d1, dz⟩ := rv.cells
      simp only [] at d1
      have SB := rv.set true
      have hA5 := SB.2.heap hAv (fun e => by omega)
      have hB5 := SB.2.heap hBv (fun e => by omega)
      have HF5 : Hid (Fr (PQ p q) w (V.setCell ⟨p, 1, none⟩ (.bool true))) := HFv.out.trans SB.2 (fun _ _ e => e) (fun _ _ e => .inl e)
      have r5 := SB.1
      simp only [] at r5
      clear SB
      generalize hU : V.setCell ⟨p, 1, none⟩ (.bool true) = U at *
      obtain ⟨⟨e0a, e1a, e2a, e3a, e4a⟩, -⟩ := cells5z hA5
      obtain ⟨⟨b0, b1, b2, b3, b4⟩, bz0, bz1, bz2, bz3, bz4⟩ := cells5z hB5
      go_wp2_with fail
      refine bodyPost_ret (results_28 _ w.heap.size _ _ _ _ _ (set_chain5 hB5) _ rfl) rfl ?_
      have FF := fr_chain5 U w.heap.size (.int .i64 3) (.int .i64 0) (.complex .f64 0 0) (.string nm) (.string e0)
      rw [HR.out]
      refine ⟨rfl, r5.away (fun k hk => by subst hk; exact ⟨by omega, by omega, nob_block hB5 (nobs5 (nob_int _) (nob_int _) (nob_cx _ _) (nob_str _) (nob_str _))⟩) FF, HF5.out.trans FF (fun _ _ e => e) (fun i hi e => by omega)⟩
    | false =>
      obtain ⟨d0, d1, dz⟩ := rv.cells
      simp only [] at d1
      have SB := rv.set false
      have hA5 := SB.2.heap hAv (fun e => by omega)
      have hB5 := SB.2.heap hBv (fun e => by omega)
      have HF5 : Hid (Fr (PQ p q) w (V.setCell ⟨p, 1, none⟩ (.bool false))) := HFv.out.trans SB.2 (fun _ _ e => e) (fun _ _ e => .inl e)
      have r5 := SB.1
      simp only [] at r5
      clear SB
      generalize hU : V.setCell ⟨p, 1, none⟩ (.bool false) = U at *
      obtain ⟨⟨e0a, e1a, e2a, e3a, e4a⟩, -⟩ := cells5z hA5
      obtain ⟨⟨b0, b1, b2, b3, b4⟩, bz0, bz1, bz2, bz3, bz4⟩ := cells5z hB5
      go_wp2_with fail
      refine bodyPost_ret (results_28 _ w.heap.size _ _ _ _ _ (set_chain5 hB5) _ rfl) rfl ?_
      have FF := fr_chain5 U w.heap.size (.int .i64 3) (.int .i64 0) (.complex .f64 0 0) (.string nm) (.string e0)
      rw [HR.out]
      refine ⟨rfl, r5.away (fun k hk => by subst hk; exact ⟨by omega, by omega, nob_block hB5 (nobs5 (nob_int _) (nob_int _) (nob_cx _ _) (nob_str _) (nob_str _))⟩) FF, HF5.out.trans FF (fun _ _ e => e) (fun i hi e => by omega)⟩
  rw [if_neg hk] at HR
  have k3 : ((c : Int) == 3) = false := by simp; omega
  clear hk
  go_enter Tryz.func28, Tryz.ntmps28
  go_wp2_with fail
  refine K.mono ?_
  rintro x w1 ⟨rfl, r1, f1⟩
  have hlt1 := r1.lt
  obtain ⟨hB1, hBs⟩ := HB.out w1 f1
  have HF1 : Hid (Fr (PQ p q) w w1) := HF.out.trans f1 (fun _ _ f => f.elim) (fun _ _ e => e)
  have hAB : ¬ w1.heap.size = w.heap.size := by omega
  have fa : Fr no w1 (w1.alloc (.cells #[.int .i64 (c : Int), .int .i64 0, .complex .f64 0 0, .string ⟨#[]⟩, .string ⟨#[]⟩] 39)) := (Fr.refl no w1).alloc _ _
  have hA0 := heap_alloc_new w1 (.cells #[.int .i64 (c : Int), .int .i64 0, .complex .f64 0 0, .string ⟨#[]⟩, .string ⟨#[]⟩] 39)
  have ra : DS _ p q (l, b) := r1.new fa
  have hB2 := fa.heap hB1 (fun f => f)
  have HFa : Hid (Fr no w1 (w1.alloc (.cells #[.int .i64 (c : Int), .int .i64 0, .complex .f64 0 0, .string ⟨#[]⟩, .string ⟨#[]⟩] 39))) := fa
  clear fa f1 hB1
  obtain ⟨d0, d1, dz⟩ := ra.cells
  obtain ⟨c0, c1, cz⟩ := r1.cells
  simp only [] at d1 c1
  have U := dText_any _ p q (l, b) ra
  generalize dX 20 (l, b) = t3 at *
  obtain ⟨nm, t3⟩ := t3
  simp only [] at HR U
  clear ra
  go_wp2_with fail
  refine U.mono ?_
  rintro e w2 ⟨rfl, r2, g2⟩
  have hA2 := g2.heap hA0 (fun e => e.elim (fun e => by omega) (fun e => by omega))
  have hB2x := g2.heap hB2 (fun e => e.elim (fun e => by omega) (fun e => by omega))
  have HF2 : Hid (Fr (PQ p q) w w2) := (HF1.out.trans HFa.out (fun _ _ e => e) (fun _ _ f => f.elim)).trans g2 (fun _ _ e => e) (fun _ _ e => e)
  clear d0 d1 dz c0 c1 cz
  obtain ⟨⟨a0, a1, a2, a3, a4⟩, az0, az1, az2, az3, az4⟩ := cells5z hA2
  have rv : DS (w2.setCell ⟨w1.heap.size, 3, none⟩ (.string nm)) p q t3 := r2.away (fun k hk => by subst hk; exact ⟨by omega, by omega, nob_block hA2 (nobs5 (nob_int _) (nob_int _) (nob_cx _ _) (nob_str _) (nob_str _))⟩) (fr_one w2 w1.heap.size 3 (.string nm))
  have hAv : (w2.setCell ⟨w1.heap.size, 3, none⟩ (.string nm)).heap[w1.heap.size]? = some (.cells #[.int .i64 (c : Int), .int .i64 0, .complex .f64 0 0, .string nm, .string e0] 39 (0, 0)) := set_at hA2 3 _
  have hBv := (fr_one w2 w1.heap.size 3 (.string nm)).heap hB2x (fun e => by omega)
  have HFv : Hid (Fr (PQ p q) w (w2.setCell ⟨w1.heap.size, 3, none⟩ (.string nm))) := HF2.out.trans (fr_one w2 w1.heap.size 3 (.string nm)) (fun _ _ e => e) (fun i hi e => by have := HF1.out.size; omega)
  generalize hV0 : w2.setCell ⟨w1.heap.size, 3, none⟩ (.string nm) = V0 at *
  obtain ⟨⟨v0, v1, v2, v3, v4⟩, -⟩ := cells5z hAv
  have U2 := dText_any V0 p q t3 rv
  generalize dX 20 t3 = t4 at *
  obtain ⟨nm2, ⟨l3, b3⟩⟩ := t4
  simp only [] at HR U2
  clear hA2 hB2x r2
  go_wp2_with fail
  refine U2.mono ?_
  rintro e w3 ⟨rfl, r3, g3⟩
  have hlt3 := r3.lt
  have hA3 := g3.heap hAv (fun e => e.elim (fun e => by omega) (fun e => by omega))
  have hB3 := g3.heap hBv (fun e => e.elim (fun e => by omega) (fun e => by omega))
  have HF3 : Hid (Fr (PQ p q) w w3) := HFv.out.trans g3 (fun _ _ e => e) (fun _ _ e => e)
  clear a0 a1 a2 a3 a4 az0 az1 az2 az3 az4 v0 v1 v2 v3 v4 hV0 hAv hBv rv HFv
  have rv : DS (w3.setCell ⟨w1.heap.size, 4, none⟩ (.string nm2)) p q (l3, b3) := r3.away (fun k hk => by subst hk; exact ⟨by omega, by omega, nob_block hA3 (nobs5 (nob_int _) (nob_int _) (nob_cx _ _) (nob_str _) (nob_str _))⟩) (fr_one w3 w1.heap.size 4 (.string nm2))
  have hAv : (w3.setCell ⟨w1.heap.size, 4, none⟩ (.string nm2)).heap[w1.heap.size]? = some (.cells #[.int .i64 (c : Int), .int .i64 0, .complex .f64 0 0, .string nm, .string nm2] 39 (0, 0)) := set_at hA3 4 _
  have hBv := (fr_one w3 w1.heap.size 4 (.string nm2)).heap hB3 (fun e => by omega)
  have HFv : Hid (Fr (PQ p q) w (w3.setCell ⟨w1.heap.size, 4, none⟩ (.string nm2))) := HF3.out.trans (fr_one w3 w1.heap.size 4 (.string nm2)) (fun _ _ e => e) (fun i hi e => by have := HF1.out.size; omega)
  obtain ⟨⟨a0, a1, a2, a3, a4⟩, az0, az1, az2, az3, az4⟩ := cells5z hA3
  generalize hV : w3.setCell ⟨w1.heap.size, 4, none⟩ (.string nm2) = V at *
  cases b3 with
  | true =>
    obtain ⟨d0, d1, dz⟩ := rv.cells
    simp only [] at d1
    have SB := rv.set true
    have hA5 := SB.2.heap hAv (fun e => by omega)
    have hB5 := SB.2.heap hBv (fun e => by omega)
    have HF5 : Hid (Fr (PQ p q) w (V.setCell ⟨p, 1, none⟩ (.bool true))) := HFv.out.trans SB.2 (fun _ _ e => e) (fun _ _ e => .inl e)
    have r5 := SB.1
    simp only [] at r5
    clear SB
    generalize hU : V.setCell ⟨p, 1, none⟩ (.bool true) = U at *
    obtain ⟨⟨e0a, e1a, e2a, e3a, e4a⟩, -⟩ := cells5z hA5
    obtain ⟨⟨b0, b1, b2, b3, b4⟩, bz0, bz1, bz2, bz3, bz4⟩ := cells5z hB5
    go_wp2_with fail
    refine bodyPost_ret (results_28 _ w.heap.size _ _ _ _ _ (set_chain5 hB5) _ rfl) rfl ?_
    have FF := fr_chain5 U w.heap.size (.int .i64 (c : Int)) (.int .i64 0) (.complex .f64 0 0) (.string nm) (.string nm2)
    rw [HR.out]
    refine ⟨rfl, r5.away (fun k hk => by subst hk; exact ⟨by omega, by omega, nob_block hB5 (nobs5 (nob_int _) (nob_int _) (nob_cx _ _) (nob_str _) (nob_str _))⟩) FF, HF5.out.trans FF (fun _ _ e => e) (fun i hi e => by omega)⟩
  | false =>
    obtain ⟨d0, d1, dz⟩ := rv.cells
    simp only [] at d1
    have SB := rv.set false
    have hA5 := SB.2.heap hAv (fun e => by omega)
    have hB5 := SB.2.heap hBv (fun e => by omega)
    have HF5 : Hid (Fr (PQ p q) w (V.setCell ⟨p, 1, none⟩ (.bool false))) := HFv.out.trans SB.2 (fun _ _ e => e) (fun _ _ e => .inl e)
    have r5 := SB.1
    simp only [] at r5
    clear SB
    generalize hU : V.setCell ⟨p, 1, none⟩ (.bool false) = U at *
    obtain ⟨⟨e0a, e1a, e2a, e3a, e4a⟩, -⟩ := cells5z hA5
    obtain ⟨⟨b0, b1, b2, b3, b4⟩, bz0, bz1, bz2, bz3, bz4⟩ := cells5z hB5
    go_wp2_with fail
    refine bodyPost_ret (results_28 _ w.heap.size _ _ _ _ _ (set_chain5 hB5) _ rfl) rfl ?_
    have FF := fr_chain5 U w.heap.size (.int .i64 (c : Int)) (.int .i64 0) (.complex .f64 0 0) (.string nm) (.string nm2)
    rw [HR.out]
    refine ⟨rfl, r5.away (fun k hk => by subst hk; exact ⟨by omega, by omega, nob_block hB5 (nobs5 (nob_int _) (nob_int _) (nob_cx _ _) (nob_str _) (nob_str _))⟩) FF, HF5.out.trans FF (fun _ _ e => e) (fun i hi e => by omega)⟩
end Go.Proofs.YthncdbobjeeeaaaGreatDoor

