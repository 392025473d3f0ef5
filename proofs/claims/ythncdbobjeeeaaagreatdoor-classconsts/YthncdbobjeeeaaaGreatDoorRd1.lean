/- The class reader: texts, counts, names, flags, its end. -/
import Derived.Test.YthncdbobjeeeaaaGreatDoorTake
import Derived.Deep.RegionHeld3
namespace Go.Proofs.YthncdbobjeeeaaaGreatDoor
open Go.ChangeShapes Go.WideShapes Go.ChangeAt Go.RowKit

set_option maxRecDepth 100000 in
theorem cloT_any (w : World) (p q a b : Nat) (l : List Nat) (h : RS w p q l 0) (most : Int) (hm1 : -9223372036854775808 ≤ most) (hm2 : most ≤ 9223372036854775807)
    (ha : w.heap[a]? = some (.cells #[.pointer (some ⟨p, 0, none⟩)] 62 (0, 0))) (hb : w.heap[b]? = some (.cells #[.int .i64 most] 3 (0, 0))) :
    Calls Tryz.prog 121 #[.pointer (some ⟨a, 0, none⟩), .pointer (some ⟨b, 0, none⟩)] w fun x w' => x = .returned (.tuple #[.string (bstr (tx l most).1), .int .i64 ((tx l most).2.1 : Int)]) ∧ Rd 176 w' q (l.drop (tx l most).2.2) ∧ Fr (fun k => k = q) w w' := by
  obtain ⟨c0, c1, z1⟩ := h.cells
  have d0 := cell_of_one ha
  have d1 := cell_of_one hb
  have R0 := readText_any w.drew q l (h.new (Fr.refl no w).drew).rd h.by_ h.ln most hm1 hm2
  have R : Calls Tryz.prog 122 #[.pointer (some ⟨q, 0, none⟩), .int .i64 most] w.drew fun x w' => x = .returned (.tuple #[.string (bstr (tx l most).1), .int .i64 ((tx l most).2.1 : Int)]) ∧ Rd 176 w' q (l.drop (tx l most).2.2) ∧ Fr (fun k => k = q) w w' := by
    refine R0.mono ?_
    rintro x w' ⟨rfl, r1, f1⟩
    exact ⟨rfl, r1, ((Fr.refl no w).drew).trans f1 (fun _ _ f => f.elim) (fun _ _ e => e)⟩
  clear R0
  have hqa : a ≠ q := fun e => by
    obtain ⟨v, h1, _⟩ := h.rd
    rw [← e, ha] at h1
    simp at h1
  have hqb : b ≠ q := fun e => by
    obtain ⟨v, h1, _⟩ := h.rd
    rw [← e, hb] at h1
    simp at h1
  have KS : ∀ w2, Fr (fun k => k = q) w w2 → w2.cell? ⟨a, 0, none⟩ = some (.pointer (some ⟨p, 0, none⟩)) ∧ w2.cell? ⟨b, 0, none⟩ = some (.int .i64 most) ∧ w2.cell? ⟨p, 0, none⟩ = some (.pointer (some ⟨q, 0, none⟩)) :=
    fun w2 f2 => ⟨f2.cell d0 hqa, f2.cell d1 hqb, f2.cell c0 h.ne⟩
  clear ha hb h
  go_enter Tryz.func121, Tryz.ntmps121
  go_wp2_with fail
  go_region_held3 (fun w2 => w2.cell? ⟨a, 0, none⟩ = some (.pointer (some ⟨p, 0, none⟩)) ∧ w2.cell? ⟨b, 0, none⟩ = some (.int .i64 most) ∧ w2.cell? ⟨p, 0, none⟩ = some (.pointer (some ⟨q, 0, none⟩))) (first | exact KS _ (Fr.refl _ _).drew | exact KS _ f1) (first | (go_at_call 122; refine R.mono ?_; rintro x w1 ⟨rfl, r1, f1⟩))
  go_wp2_with fail
  go_ret2
  exact ⟨rfl, r1, f1⟩

theorem rText_any (w : World) (p q : Nat) (s : List Nat × Nat) (h : RT w p q s) (most : Int) (hm1 : -9223372036854775808 ≤ most) (hm2 : most ≤ 9223372036854775807) :
    Calls Tryz.prog 63 #[.pointer (some ⟨p, 0, none⟩), .int .i64 most] w fun x w' => x = .returned (.string (tkT most s).1) ∧ RT w' p q (tkT most s).2 ∧ Fr (PQ p q) w w' := by
  obtain ⟨l, err⟩ := s
  have h : RS w p q l err := h
  have f0 : Fr no w ((w.alloc (.cells #[.pointer (some ⟨p, 0, none⟩)] 62)).alloc (.cells #[.int .i64 most] 3)) := ((Fr.refl no w).alloc _ _).alloc _ _
  have hs1 : (w.alloc (.cells #[.pointer (some ⟨p, 0, none⟩)] 62)).heap.size = w.heap.size + 1 := size_alloc _ _
  have hb : ((w.alloc (.cells #[.pointer (some ⟨p, 0, none⟩)] 62)).alloc (.cells #[.int .i64 most] 3)).heap[w.heap.size + 1]? = some (.cells #[.int .i64 most] 3 (0, 0)) := by rw [← hs1]; exact heap_alloc_new _ _
  have ha : ((w.alloc (.cells #[.pointer (some ⟨p, 0, none⟩)] 62)).alloc (.cells #[.int .i64 most] 3)).heap[w.heap.size]? = some (.cells #[.pointer (some ⟨p, 0, none⟩)] 62 (0, 0)) := ((Fr.refl no _).alloc _ _).heap (heap_alloc_new w _) (fun f => f)
  have HF : Hid (Fr no w ((w.alloc (.cells #[.pointer (some ⟨p, 0, none⟩)] 62)).alloc (.cells #[.int .i64 most] 3))) := f0
  have h' := h.new f0
  generalize hW : (w.alloc (.cells #[.pointer (some ⟨p, 0, none⟩)] 62)).alloc (.cells #[.int .i64 most] 3) = W at *
  have a0 := cell_of_one ha
  have K := takeT_any W p q l err h' w.heap.size (w.heap.size + 1) (bstr (tx l most).1) (tx l most).2.1 (tx l most).2.2 (fun e0 => by subst e0; exact cloT_any W p q _ _ l h' most hm1 hm2 ha hb)
  clear f0 ha hb h h'
  by_cases h0 : err = 0
  · subst h0
    rw [if_pos rfl, if_pos rfl] at K
    have e : tkT most (l, 0) = (bstr (tx l most).1, (l.drop (tx l most).2.2, (tx l most).2.1)) := rfl
    rw [e]
    go_enter Tryz.func63, Tryz.ntmps63
    go_wp2_with fail
    refine K.mono ?_
    rintro x w1 ⟨rfl, r1, f1⟩
    go_wp2_with fail
    go_ret
    exact ⟨rfl, r1, HF.out.trans f1 (fun _ _ f => f.elim) (fun _ _ e => e)⟩
  · rw [if_neg h0, if_neg h0] at K
    have e : tkT most (l, err) = (e0, (l, err)) := by unfold tkT; rw [if_neg h0]
    rw [e]
    have e2 : ∀ x, thn err x = err := fun x => by unfold thn; rw [if_neg h0]
    rw [e2] at K
    go_enter Tryz.func63, Tryz.ntmps63
    go_wp2_with fail
    refine K.mono ?_
    rintro x w1 ⟨rfl, r1, f1⟩
    go_wp2_with fail
    go_ret
    exact ⟨rfl, r1, HF.out.trans f1 (fun _ _ f => f.elim) (fun _ _ e => e)⟩

set_option maxRecDepth 100000 in
theorem cloN_any (w : World) (p q a b : Nat) (l : List Nat) (h : RS w p q l 0) (most : Int) (hm1 : -9223372036854775808 ≤ most) (hm2 : most ≤ 9223372036854775807)
    (ha : w.heap[a]? = some (.cells #[.pointer (some ⟨p, 0, none⟩)] 62 (0, 0))) (hb : w.heap[b]? = some (.cells #[.int .i64 most] 3 (0, 0))) :
    Calls Tryz.prog 124 #[.pointer (some ⟨a, 0, none⟩), .pointer (some ⟨b, 0, none⟩)] w fun x w' => x = .returned (.tuple #[.int .i64 ((ct l most).1 : Int), .int .i64 ((ct l most).2.1 : Int)]) ∧ Rd 176 w' q (l.drop (ct l most).2.2) ∧ Fr (fun k => k = q) w w' := by
  obtain ⟨c0, c1, z1⟩ := h.cells
  have d0 := cell_of_one ha
  have d1 := cell_of_one hb
  have R0 := readCount_any w.drew q l (h.new (Fr.refl no w).drew).rd h.by_ h.ln most hm1 hm2
  have R : Calls Tryz.prog 125 #[.pointer (some ⟨q, 0, none⟩), .int .i64 most] w.drew fun x w' => x = .returned (.tuple #[.int .i64 ((ct l most).1 : Int), .int .i64 ((ct l most).2.1 : Int)]) ∧ Rd 176 w' q (l.drop (ct l most).2.2) ∧ Fr (fun k => k = q) w w' := by
    refine R0.mono ?_
    rintro x w' ⟨rfl, r1, _, f1⟩
    exact ⟨rfl, r1, ((Fr.refl no w).drew).trans f1 (fun _ _ f => f.elim) (fun _ _ e => e)⟩
  clear R0
  have hqa : a ≠ q := fun e => by
    obtain ⟨v, h1, _⟩ := h.rd
    rw [← e, ha] at h1
    simp at h1
  have hqb : b ≠ q := fun e => by
    obtain ⟨v, h1, _⟩ := h.rd
    rw [← e, hb] at h1
    simp at h1
  have KS : ∀ w2, Fr (fun k => k = q) w w2 → w2.cell? ⟨a, 0, none⟩ = some (.pointer (some ⟨p, 0, none⟩)) ∧ w2.cell? ⟨b, 0, none⟩ = some (.int .i64 most) ∧ w2.cell? ⟨p, 0, none⟩ = some (.pointer (some ⟨q, 0, none⟩)) :=
    fun w2 f2 => ⟨f2.cell d0 hqa, f2.cell d1 hqb, f2.cell c0 h.ne⟩
  clear ha hb h
  go_enter Tryz.func124, Tryz.ntmps124
  go_wp2_with fail
  go_region_held3 (fun w2 => w2.cell? ⟨a, 0, none⟩ = some (.pointer (some ⟨p, 0, none⟩)) ∧ w2.cell? ⟨b, 0, none⟩ = some (.int .i64 most) ∧ w2.cell? ⟨p, 0, none⟩ = some (.pointer (some ⟨q, 0, none⟩))) (first | exact KS _ (Fr.refl _ _).drew | exact KS _ f1) (first | (go_at_call 125; refine R.mono ?_; rintro x w1 ⟨rfl, r1, f1⟩))
  go_wp2_with fail
  go_ret2
  exact ⟨rfl, r1, f1⟩

theorem rCount_any (w : World) (p q : Nat) (s : List Nat × Nat) (h : RT w p q s) (most : Int) (hm1 : -9223372036854775808 ≤ most) (hm2 : most ≤ 9223372036854775807) :
    Calls Tryz.prog 64 #[.pointer (some ⟨p, 0, none⟩), .int .i64 most] w fun x w' => x = .returned (.int .i64 ((tkN most s).1 : Int)) ∧ RT w' p q (tkN most s).2 ∧ Fr (PQ p q) w w' := by
  obtain ⟨l, err⟩ := s
  have h : RS w p q l err := h
  have f0 : Fr no w ((w.alloc (.cells #[.pointer (some ⟨p, 0, none⟩)] 62)).alloc (.cells #[.int .i64 most] 3)) := ((Fr.refl no w).alloc _ _).alloc _ _
  have hs1 : (w.alloc (.cells #[.pointer (some ⟨p, 0, none⟩)] 62)).heap.size = w.heap.size + 1 := size_alloc _ _
  have hb : ((w.alloc (.cells #[.pointer (some ⟨p, 0, none⟩)] 62)).alloc (.cells #[.int .i64 most] 3)).heap[w.heap.size + 1]? = some (.cells #[.int .i64 most] 3 (0, 0)) := by rw [← hs1]; exact heap_alloc_new _ _
  have ha : ((w.alloc (.cells #[.pointer (some ⟨p, 0, none⟩)] 62)).alloc (.cells #[.int .i64 most] 3)).heap[w.heap.size]? = some (.cells #[.pointer (some ⟨p, 0, none⟩)] 62 (0, 0)) := ((Fr.refl no _).alloc _ _).heap (heap_alloc_new w _) (fun f => f)
  have HF : Hid (Fr no w ((w.alloc (.cells #[.pointer (some ⟨p, 0, none⟩)] 62)).alloc (.cells #[.int .i64 most] 3))) := f0
  have h' := h.new f0
  generalize hW : (w.alloc (.cells #[.pointer (some ⟨p, 0, none⟩)] 62)).alloc (.cells #[.int .i64 most] 3) = W at *
  have a0 := cell_of_one ha
  have K := takeN_any W p q l err h' w.heap.size (w.heap.size + 1) (ct l most).1 (ct l most).2.1 (ct l most).2.2 (fun e0 => by subst e0; exact cloN_any W p q _ _ l h' most hm1 hm2 ha hb)
  clear f0 ha hb h h'
  by_cases h0 : err = 0
  · subst h0
    rw [if_pos rfl, if_pos rfl] at K
    have e : tkN most (l, 0) = ((ct l most).1, (l.drop (ct l most).2.2, (ct l most).2.1)) := rfl
    rw [e]
    go_enter Tryz.func64, Tryz.ntmps64
    go_wp2_with fail
    refine K.mono ?_
    rintro x w1 ⟨rfl, r1, f1⟩
    go_wp2_with fail
    go_ret
    exact ⟨rfl, r1, HF.out.trans f1 (fun _ _ f => f.elim) (fun _ _ e => e)⟩
  · rw [if_neg h0, if_neg h0] at K
    have e : tkN most (l, err) = (0, (l, err)) := by unfold tkN; rw [if_neg h0]
    rw [e]
    have e2 : ∀ x, thn err x = err := fun x => by unfold thn; rw [if_neg h0]
    rw [e2] at K
    go_enter Tryz.func64, Tryz.ntmps64
    go_wp2_with fail
    refine K.mono ?_
    rintro x w1 ⟨rfl, r1, f1⟩
    go_wp2_with fail
    go_ret
    exact ⟨rfl, r1, HF.out.trans f1 (fun _ _ f => f.elim) (fun _ _ e => e)⟩

theorem rName_any (w : World) (p q : Nat) (s : List Nat × Nat) (h : RT w p q s) :
    Calls Tryz.prog 18 #[.pointer (some ⟨p, 0, none⟩)] w fun x w' => x = .returned (.string (tkT 20 s).1) ∧ RT w' p q (tkT 20 s).2 ∧ Fr (PQ p q) w w' := by
  have K := rText_any w p q s h 20 (by omega) (by omega)
  generalize tkT 20 s = r at *
  go_enter Tryz.func18, Tryz.ntmps18
  go_wp2_with fail
  refine K.mono ?_
  rintro x w1 ⟨rfl, r1, f1⟩
  go_wp2_with fail
  go_ret
  exact ⟨rfl, r1, f1⟩

/-- A flag. -/
def tkF (s : List Nat × Nat) : Bool × (List Nat × Nat) := (decide ((tkB s).1 = 1), ((tkB s).2.1, if 1 < (tkB s).1 then thn (tkB s).2.2 31 else (tkB s).2.2))

theorem rFlag_any (w : World) (p q : Nat) (s : List Nat × Nat) (h : RT w p q s) :
    Calls Tryz.prog 69 #[.pointer (some ⟨p, 0, none⟩)] w fun x w' => x = .returned (.bool (tkF s).1) ∧ RT w' p q (tkF s).2 ∧ Fr (PQ p q) w w' := by
  have K := rByte_any w p q s h
  have HE : Hid (tkF s = (decide ((tkB s).1 = 1), ((tkB s).2.1, if 1 < (tkB s).1 then thn (tkB s).2.2 31 else (tkB s).2.2))) := rfl
  generalize tkB s = r at *
  generalize tkF s = t at *
  obtain ⟨c, l, e⟩ := r
  simp only [] at *
  by_cases hc : 1 < c
  · have HE' : Hid (t = (false, (l, thn e 31))) := by show _ = _; rw [HE.out, if_pos hc, decide_eq_false (by omega)]
    have q1 : ((c : Int) == 1) = false := by simp; omega
    clear HE
    go_enter Tryz.func69, Tryz.ntmps69
    go_wp2_with fail
    refine K.mono ?_
    rintro x w1 ⟨rfl, r1, f1⟩
    go_wp2_with fail
    refine (fail_any w1 p q l e r1 31).mono ?_
    rintro x w2 ⟨rfl, r2, f2⟩
    go_wp2_with fail
    go_ret
    rw [HE'.out]
    exact ⟨rfl, r2, f1.trans f2 (fun _ _ e => e) (fun _ _ e => e)⟩
  · have HE' : Hid (t = (decide (c = 1), (l, e))) := by show _ = _; rw [HE.out, if_neg hc]
    clear HE
    by_cases hc1 : c = 1
    · subst hc1
      go_enter Tryz.func69, Tryz.ntmps69
      go_wp2_with fail
      refine K.mono ?_
      rintro x w1 ⟨rfl, r1, f1⟩
      go_wp2_with fail
      go_ret
      rw [HE'.out]
      exact ⟨rfl, r1, f1⟩
    · obtain rfl : c = 0 := by omega
      go_enter Tryz.func69, Tryz.ntmps69
      go_wp2_with fail
      refine K.mono ?_
      rintro x w1 ⟨rfl, r1, f1⟩
      go_wp2_with fail
      go_ret
      rw [HE'.out]
      exact ⟨rfl, r1, f1⟩

/-- Nothing may be left. -/
def tkEnd (s : List Nat × Nat) : List Nat × Nat := (s.1, if 0 < s.1.length then thn s.2 31 else s.2)

theorem rEnd_any (w : World) (p q : Nat) (s : List Nat × Nat) (h : RT w p q s) :
    Calls Tryz.prog 25 #[.pointer (some ⟨p, 0, none⟩)] w fun x w' => x = .returned (.tuple #[]) ∧ RT w' p q (tkEnd s) ∧ Fr (PQ p q) w w' := by
  obtain ⟨l, err⟩ := s
  have h : RS w p q l err := h
  obtain ⟨c0, c1, z1⟩ := h.cells
  have L := left_any w q l h.rd
  by_cases hl : 0 < l.length
  · have e : tkEnd (l, err) = (l, thn err 31) := by unfold tkEnd; rw [if_pos hl]
    rw [e]
    have hl' : (0 : Int) < (l.length : Int) := by omega
    go_enter Tryz.func25, Tryz.ntmps25
    go_wp2_with fail
    refine L.mono ?_
    rintro x w1 ⟨rfl, rfl⟩
    go_wp2_with fail
    refine (fail_any w1 p q l err h 31).mono ?_
    rintro x w2 ⟨rfl, r2, f2⟩
    go_wp2_with fail
    go_end0
    exact ⟨rfl, r2, f2⟩
  · have e : tkEnd (l, err) = (l, err) := by unfold tkEnd; rw [if_neg hl]
    rw [e]
    have hl' : ¬ (0 : Int) < (l.length : Int) := by omega
    go_enter Tryz.func25, Tryz.ntmps25
    go_wp2_with fail
    refine L.mono ?_
    rintro x w1 ⟨rfl, rfl⟩
    go_wp2_with fail
    go_end0
    exact ⟨rfl, h, Fr.refl _ _⟩

theorem rOpen_any (w : World) (v : Value) (l : List Nat) (h : Sl w v l) (hl : ∀ c ∈ l, c < 256) (hb : l.length ≤ 1099511627776) :
    Calls Tryz.prog 16 #[v] w fun x w' => ∃ p q, x = .returned (.pointer (some ⟨p, 0, none⟩)) ∧ w.heap.size ≤ p ∧ w.heap.size ≤ q ∧ RT w' p q (l, 0) ∧ Fr no w w' := by
  have O := open_any w v l h hb
  obtain ⟨vo, vc, rfl, _⟩ := h.shape
  go_enter Tryz.func16, Tryz.ntmps16
  go_wp2_with fail
  refine O.mono ?_
  rintro x w1 ⟨q, rfl, hq, r1, f1⟩
  go_wp2_with fail
  go_ret
  have f2 : Fr no w1 (w1.alloc (.cells #[.pointer (some ⟨q, 0, none⟩), .int .i64 0] 74)) := (Fr.refl no w1).alloc _ _
  exact ⟨_, q, rfl, f1.size, hq, ⟨heap_alloc_new w1 _, r1.kept f2 (fun f => f) (fun _ _ _ f => f), hl, hb⟩, f1.new f2 (fun _ _ f => f)⟩
end Go.Proofs.YthncdbobjeeeaaaGreatDoor
