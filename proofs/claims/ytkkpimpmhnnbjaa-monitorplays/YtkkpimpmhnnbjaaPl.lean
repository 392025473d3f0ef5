/- New, place, owned. -/
import Derived.Test.YtkkpimpmhnnbjaaTb
import Derived.Deep.CutBlock
namespace Go.Proofs.Ytkkpimpmhnnbjaa
open Go.ChangeShapes Go.WideShapes Go.ChangeAt Go.RowKit

theorem cells2 {w : World} {p : Nat} {x y : Value} {t : TypeId} (h : w.heap[p]? = some (.cells #[x, y] t (0, 0))) : w.cell? ⟨p, 0, none⟩ = some x ∧ w.cell? ⟨p, 1, none⟩ = some y := by
  refine ⟨?_, ?_⟩ <;> simp [World.cell?, h]

theorem thaw {w : World} {p : Nat} {cs : Array Value} {t : TypeId} (h : w.heap[p]? = some (.cells cs t (0, 0))) (i : Nat) : w.frozen? ⟨p, i, none⟩ = false := by
  simp [World.frozen?, h]

theorem new_any (w : World) (c : Nat) (hc : c ≤ w.heap.size) :
    Calls Try.prog 9 #[] w fun e w' => ∃ p, e = .returned (.pointer (some ⟨p, 0, none⟩)) ∧ w.heap.size ≤ p ∧ TB c w' p 0 (fun _ => none) (fun _ => 0) ∧ Fr no w w' := by
  go_enter Try.func9, Try.ntmps9
  go_wp2_with fail
  go_ret
  exact ⟨_, rfl, Nat.le_refl _, .inl ⟨hc, heap_alloc_new w _, rfl, rfl⟩, (Fr.refl no w).alloc _ _⟩

theorem cells5 {w : World} {q : Nat} {x : Lk} {e v : Value} (h : w.heap[q]? = some (.cells (lkC x e v) 66 (0, 0))) :
    w.cell? ⟨q, 0, none⟩ = some (.int .i64 x.owner) ∧ w.cell? ⟨q, 1, none⟩ = some (.int .i64 x.count) ∧ w.cell? ⟨q, 2, none⟩ = some (.bool x.fat) ∧ w.cell? ⟨q, 3, none⟩ = some e ∧ w.cell? ⟨q, 4, none⟩ = some v := by
  refine ⟨?_, ?_, ?_, ?_, ?_⟩ <;> simp [World.cell?, h, lkC]

theorem eq_ptr (w : World) (q : Nat) : (binOp .eql 62 (.pointer (some ⟨q, 0, none⟩)) (.pointer none)).run Try.prog w = .ok (.bool false) w := by kernel_rfl
theorem eq_nil (w : World) : (binOp .eql 62 (.pointer none) (.pointer none)).run Try.prog w = .ok (.bool true) w := by kernel_rfl
theorem ne_ptr (w : World) (q : Nat) : (binOp .neq 62 (.pointer (some ⟨q, 0, none⟩)) (.pointer none)).run Try.prog w = .ok (.bool true) w := by kernel_rfl
theorem ne_nil (w : World) : (binOp .neq 62 (.pointer none) (.pointer none)).run Try.prog w = .ok (.bool false) w := by kernel_rfl
theorem eq_map (w : World) (m : Nat) : (binOp .eql 58 (.map (some m)) (.map none)).run Try.prog w = .ok (.bool false) w := by kernel_rfl
theorem eq_mapn (w : World) : (binOp .eql 58 (.map none) (.map none)).run Try.prog w = .ok (.bool true) w := by kernel_rfl

/-- The lock of an object is there. -/
theorem place_there {c : Nat} {w : World} {p n m1 m2 : Nat} {F : Int → Option Lay} {S : Int → Option Lk} {N : Int → Int} (h : TP c w p n m1 m2 F S N) (a : Int) (ha : In a) (y : Lay) (hy : F a = some y) :
    Calls Try.prog 26 #[.pointer (some ⟨p, 0, none⟩), .int .i64 a] w fun e w' => e = .returned (.pointer (some ⟨y.q, 0, none⟩)) ∧ w' = w := by
  obtain ⟨hc0, hc1⟩ := cells2 h.tab
  have hl := h.lm.look ha
  rw [hy] at hl
  simp only [Option.map_some, pv] at hl
  have e1 := eq_ptr
  have e2 := eq_map
  clear h hy
  go_enter Try.func26, Try.ntmps26
  go_wp2_with fail
  go_ret
  exact ⟨rfl, rfl⟩

theorem owned_none {c : Nat} {w : World} {p n m1 m2 : Nat} {F : Int → Option Lay} {S : Int → Option Lk} {N : Int → Int} (h : TP c w p n m1 m2 F S N) (a t : Int) (ha : In a) (hy : F a = none) :
    Calls Try.prog 29 #[.pointer (some ⟨p, 0, none⟩), .int .i64 a, .int .i64 t] w fun e w' => e = .returned (.pointer none) ∧ w' = w := by
  obtain ⟨hc0, hc1⟩ := cells2 h.tab
  have hl := h.lm.look ha
  rw [hy] at hl
  simp only [Option.map_none, pv] at hl
  have e1 := eq_nil
  clear h hy
  go_enter Try.func29, Try.ntmps29
  go_wp2_with fail
  go_ret
  exact ⟨rfl, rfl⟩

theorem place_new {c : Nat} {w : World} {p n m1 m2 : Nat} {F : Int → Option Lay} {S : Int → Option Lk} {N : Int → Int} (h : TP c w p n m1 m2 F S N) (hn : n ≤ 900000) (a : Int) (ha : In a) (hx : S a = none) :
    Calls Try.prog 26 #[.pointer (some ⟨p, 0, none⟩), .int .i64 a] w fun e w' => e = .returned (.pointer (some ⟨w.heap.size, 0, none⟩)) ∧
      TP c w' p (n + 1) m1 m2 (upd F a (some ⟨w.heap.size, .slice none 0 0, .slice none 0 0⟩)) (upd S a (some lk0)) N ∧ Fr (Tm c w) w w' := by
  obtain ⟨hc0, hc1⟩ := cells2 h.tab
  have hl := h.lm.look ha
  rw [h.out hx] at hl
  simp only [Option.map_none, pv] at hl
  have fa : Fr no w (w.alloc (.cells (lkC lk0 (.slice none 0 0) (.slice none 0 0)) 66)) := (Fr.refl no w).alloc _ _
  obtain ⟨w1, hrun, l1, f1⟩ := (h.lm.kept fa (fun f => f)).store (by omega) ha w.heap.size
  have HN : Hid (TP c w1 p (n + 1) m1 m2 (upd F a (some ⟨w.heap.size, .slice none 0 0, .slice none 0 0⟩)) (upd S a (some lk0)) N ∧ Fr (Tm c w) w w1) := h.new hx f1 l1
  have hc2 := (cells2 (h.keep fa).tab).1
  unfold lkC lk0 at hrun hc2
  simp only [] at hrun hc2
  have e1 := eq_nil
  have e2 := eq_map
  clear h hx l1 f1 fa
  go_enter Try.func26, Try.ntmps26
  go_wp2_with fail
  go_ret
  exact ⟨rfl, HN.out⟩

set_option maxRecDepth 100000 in
theorem owned_some {c : Nat} {w : World} {p n m1 m2 : Nat} {F : Int → Option Lay} {S : Int → Option Lk} {N : Int → Int} (h : TP c w p n m1 m2 F S N) (a t : Int) (ha : In a) (x : Lk) (hx : S a = some x) (y : Lay) (hy : F a = some y) :
    Calls Try.prog 29 #[.pointer (some ⟨p, 0, none⟩), .int .i64 a, .int .i64 t] w fun e w' => e = .returned (if x.owner = 0 ∨ x.owner ≠ t then .pointer none else .pointer (some ⟨y.q, 0, none⟩)) ∧ w' = w := by
  obtain ⟨hc0, hc1⟩ := cells2 h.tab
  have hl := h.lm.look ha
  rw [hy] at hl
  simp only [Option.map_some, pv] at hl
  obtain ⟨y', hy', _, hq, _⟩ := h.at hx
  rw [hy] at hy'
  obtain rfl := Option.some.inj hy'
  obtain ⟨d0, -, -, -, -⟩ := cells5 hq
  have e1 := eq_ptr
  clear h hy hx hq hy'
  generalize x.owner = o at *
  by_cases h0 : o = 0
  · have HI : Hid (o = 0 ∨ o ≠ t) := .inl h0
    rw [if_pos HI.out]
    subst h0
    go_enter Try.func29, Try.ntmps29
    go_wp2_with fail
    go_ret
    exact ⟨rfl, rfl⟩
  · have g0 : (o == 0) = false := by simpa using h0
    by_cases h1 : o = t
    · have HI : Hid (¬ (o = 0 ∨ o ≠ t)) := fun e => e.elim h0 (fun e => e h1)
      rw [if_neg HI.out]
      subst h1
      go_enter Try.func29, Try.ntmps29
      go_wp2_with fail
      go_ret
      exact ⟨rfl, rfl⟩
    · have HI : Hid (o = 0 ∨ o ≠ t) := .inr h1
      rw [if_pos HI.out]
      have g1 : (o == t) = false := by simpa using h1
      clear h0 h1
      go_enter Try.func29, Try.ntmps29
      go_wp2_with fail
      go_ret
      exact ⟨rfl, rfl⟩

theorem owned_never {w : World} {p : Nat} (h : w.heap[p]? = some (.cells #[.map none, .map none] 61 (0, 0))) (a t : Int) (ha : In a) :
    Calls Try.prog 29 #[.pointer (some ⟨p, 0, none⟩), .int .i64 a, .int .i64 t] w fun e w' => e = .returned (.pointer none) ∧ w' = w := by
  obtain ⟨hc0, hc1⟩ := cells2 h
  have hl := look_nil1 w ha
  have e1 := eq_nil
  clear h
  go_enter Try.func29, Try.ntmps29
  go_wp2_with fail
  go_ret
  exact ⟨rfl, rfl⟩
theorem mk58 (w : World) : (Instr.makeMap 58 none).run Try.prog w = .ok (.map (some w.heap.size)) (w.alloc (.map #[] 0)) := by kernel_rfl
theorem mk59 (w : World) : (Instr.makeMap 59 none).run Try.prog w = .ok (.map (some w.heap.size)) (w.alloc (.map #[] 0)) := by kernel_rfl

theorem Fr.allocM {S : Nat → Prop} {a w : World} (h : Fr S a w) (es : Array MapEntry) (c : Nat) : Fr S a (w.alloc (.map es c)) :=
  ⟨h.os, h.output, Nat.le_trans h.size (by show w.heap.size ≤ (w.heap.push _).size; simp), fun k hk hs => (Below.heap_alloc w _ k (Nat.lt_of_lt_of_le hk h.size)).trans (h.block k hk hs),
    fun x hx => by
      have : (w.alloc (.map es c)).frozen? x = w.frozen? x := by
        unfold World.frozen?
        rw [Below.heap_alloc w _ _ (Nat.lt_of_lt_of_le hx h.size)]
      exact this.trans (h.frozen x hx)⟩

/-- Both maps are made. -/
theorem tp_begin {c : Nat} {w : World} {p : Nat} (hcp : c ≤ p) (h : w.heap[p]? = some (.cells #[.map none, .map none] 61 (0, 0))) :
    TP c ((((w.alloc (.map #[] 0)).alloc (.map #[] 0)).setCell ⟨p, 0, none⟩ (.map (some w.heap.size))).setCell ⟨p, 1, none⟩ (.map (some (w.heap.size + 1)))) p 0 w.heap.size (w.heap.size + 1) (fun _ => none) (fun _ => none) (fun _ => 0) ∧
      Fr (Tm c w) w ((((w.alloc (.map #[] 0)).alloc (.map #[] 0)).setCell ⟨p, 0, none⟩ (.map (some w.heap.size))).setCell ⟨p, 1, none⟩ (.map (some (w.heap.size + 1)))) := by
  have hf : Fr no w ((w.alloc (.map #[] 0)).alloc (.map #[] 0)) := ((Fr.refl no w).allocM _ _).allocM _ _
  have hlt := lt_of_heap h
  have h' := hf.heap h (fun f => f)
  have l1 : LM ((w.alloc (.map #[] 0)).alloc (.map #[] 0)) w.heap.size 0 (fun _ => none) := (LM.made w).kept ((Fr.refl no _).allocM _ _) (fun f => f)
  have s1 : SM ((w.alloc (.map #[] 0)).alloc (.map #[] 0)) (w.heap.size + 1) 0 (fun _ => 0) := by
    have := SM.made (w.alloc (.map #[] 0))
    have e : (w.alloc (.map #[] 0)).heap.size = w.heap.size + 1 := by show (w.heap.push _).size = _; simp
    rw [e] at this
    exact this
  generalize (w.alloc (.map #[] 0)).alloc (.map #[] 0) = W at *
  have fs : Fr (fun k => k = p) W ((W.setCell ⟨p, 0, none⟩ (.map (some w.heap.size))).setCell ⟨p, 1, none⟩ (.map (some (w.heap.size + 1)))) :=
    ((Fr.refl (fun k => k = p) W).setCell (p := ⟨p, 0, none⟩) (fun _ => rfl) _).setCell (p := ⟨p, 1, none⟩) (fun _ => rfl) _
  refine ⟨⟨hcp, by omega, by omega, by omega, ?_, l1.kept fs (by show ¬ (w.heap.size = p); omega), s1.kept fs (by show ¬ (w.heap.size + 1 = p); omega), fun _ => trivial, fun k k' y y' hy => by simp at hy⟩, hf.trans fs (fun _ _ f => f.elim) (fun i _ e => ?_)⟩
  · unfold World.setCell
    simp [Array.getElem?_modify, h']
  · subst e
    exact ⟨hcp, .inr ⟨_, _, h, .inl rfl⟩⟩

set_option maxRecDepth 100000 in
theorem place_never {c : Nat} {w : World} {p : Nat} (hcp : c ≤ p) (h : w.heap[p]? = some (.cells #[.map none, .map none] 61 (0, 0))) (a : Int) (ha : In a) :
    Calls Try.prog 26 #[.pointer (some ⟨p, 0, none⟩), .int .i64 a] w fun e w' => ∃ m1 m2 F y, e = .returned (.pointer (some ⟨y.q, 0, none⟩)) ∧ TP c w' p 1 m1 m2 F (upd (fun _ => none) a (some lk0)) (fun _ => 0) ∧ F a = some y ∧ Fr (Tm c w) w w' := by
  obtain ⟨hc0, hc1⟩ := cells2 h
  have hf : Fr no w ((w.alloc (.map #[] 0)).alloc (.map #[] 0)) := ((Fr.refl no w).allocM _ _).allocM _ _
  have h' := hf.heap h (fun f => f)
  obtain ⟨hc0', hc1'⟩ := cells2 h'
  have z0 := thaw h' 0
  have z1 := thaw h' 1
  have e1 := eq_nil
  have k1 := mk58
  have k2 := mk59
  have e2 := eq_map
  have e3 := eq_mapn
  have HB : Hid _ := tp_begin (c := c) hcp h
  clear h h' hf
  go_enter Try.func26, Try.ntmps26
  go_upto_region 3 with (fail)
  revert HB
  generalize ((((w.alloc (.map #[] 0)).alloc (.map #[] 0)).setCell ⟨p, 0, none⟩ (.map (some w.heap.size))).setCell ⟨p, 1, none⟩ (.map (some (w.heap.size + 1)))) = W
  intro HB
  obtain ⟨hW, fW⟩ := HB.out
  clear hc0 hc1 hc0' hc1' z0 z1 HB k1 k2
  generalize w.heap.size = m1 at *
  obtain ⟨hc0, hc1⟩ := cells2 hW.tab
  have hl := hW.lm.look ha
  simp only [Option.map_none, pv] at hl
  have fa : Fr no W (W.alloc (.cells (lkC lk0 (.slice none 0 0) (.slice none 0 0)) 66)) := (Fr.refl no W).alloc _ _
  obtain ⟨w1, hrun, l1, f1⟩ := (hW.lm.kept fa (fun f => f)).store (by omega) ha W.heap.size
  obtain ⟨n1, n2⟩ := hW.new (k := a) rfl f1 l1
  have HN : Hid (TP c w1 p (0 + 1) m1 (m1 + 1) (upd (fun _ => none) a (some ⟨W.heap.size, .slice none 0 0, .slice none 0 0⟩)) (upd (fun _ => none) a (some lk0)) (fun _ => 0) ∧ Fr (Tm c w) w w1) := ⟨n1, fW.tm n2⟩
  have hc2 := (cells2 (hW.keep fa).tab).1
  unfold lkC lk0 at hrun hc2
  simp only [] at hrun hc2
  clear hW fW l1 f1 fa n1 n2
  go_wp2_with fail
  go_ret
  exact ⟨_, _, _, ⟨W.heap.size, .slice none 0 0, .slice none 0 0⟩, rfl, HN.out.1, upd_same _ _ _, HN.out.2⟩

/-- The lock of an object. -/
theorem place_any {c : Nat} {w : World} {p n : Nat} {S : Int → Option Lk} {N : Int → Int} (h : TB c w p n S N) (hn : n ≤ 900000) (a : Int) (ha : In a) :
    Calls Try.prog 26 #[.pointer (some ⟨p, 0, none⟩), .int .i64 a] w fun e w' => ∃ m1 m2 F y, e = .returned (.pointer (some ⟨y.q, 0, none⟩)) ∧ TP c w' p (n + 1) m1 m2 F (upd S a (some ((S a).getD lk0))) N ∧ F a = some y ∧ Fr (Tm c w) w w' := by
  rcases h with ⟨h1, h2, rfl, rfl⟩ | ⟨m1, m2, F, h⟩
  · refine (place_never h1 h2 a ha).mono ?_
    rintro e w' ⟨m1, m2, F, y, rfl, t, hy, f⟩
    exact ⟨m1, m2, F, y, rfl, t.mono (by omega), hy, f⟩
  · cases hx : S a with
    | none =>
      refine (place_new h hn a ha hx).mono ?_
      rintro e w' ⟨rfl, t, f⟩
      exact ⟨m1, m2, _, ⟨w.heap.size, .slice none 0 0, .slice none 0 0⟩, rfl, t, upd_same _ _ _, f⟩
    | some x =>
      obtain ⟨y, hy, _⟩ := h.at hx
      refine (place_there h a ha y hy).mono ?_
      rintro e w' ⟨rfl, rfl⟩
      refine ⟨m1, m2, F, y, rfl, ?_, hy, Fr.refl _ _⟩
      have : upd S a (some ((some x).getD lk0)) = S := by
        rw [Option.getD_some, ← hx]
        exact upd_self S a
      rw [this]
      exact h.mono (Nat.le_succ n)

/-- Who has a lock, of a thread. -/
def ownP (S : Int → Option Lk) (a t : Int) : Option Lk :=
  match S a with
  | none => none
  | some x => if x.owner = 0 ∨ x.owner ≠ t then none else some x

theorem ownP_some {S : Int → Option Lk} {a t : Int} {x : Lk} (h : ownP S a t = some x) : S a = some x ∧ x.owner = t ∧ t ≠ 0 := by
  unfold ownP at h
  cases hx : S a with
  | none => rw [hx] at h; simp at h
  | some z =>
    rw [hx] at h
    simp only [] at h
    split at h
    · simp at h
    · rename_i hne
      obtain rfl := Option.some.inj h
      have h1 : ¬ (z.owner = 0) := fun e => hne (.inl e)
      have h2 : z.owner = t := Classical.byContradiction (fun e => hne (.inr e))
      exact ⟨rfl, h2, fun e => h1 (h2.trans e)⟩

theorem owned_no {c : Nat} {w : World} {p n : Nat} {S : Int → Option Lk} {N : Int → Int} (h : TB c w p n S N) (a t : Int) (ha : In a) (hx : ownP S a t = none) :
    Calls Try.prog 29 #[.pointer (some ⟨p, 0, none⟩), .int .i64 a, .int .i64 t] w fun e w' => e = .returned (.pointer none) ∧ w' = w := by
  rcases h with ⟨h1, h2, rfl, rfl⟩ | ⟨m1, m2, F, h⟩
  · exact owned_never h2 a t ha
  · unfold ownP at hx
    cases hs : S a with
    | none => exact owned_none h a t ha (h.out hs)
    | some x =>
      rw [hs] at hx
      simp only [] at hx
      obtain ⟨y, hy, _⟩ := h.at hs
      refine (owned_some h a t ha x hs y hy).mono ?_
      split at hx
      · rename_i hc
        rintro e w' ⟨rfl, rfl⟩
        rw [if_pos hc]
        exact ⟨rfl, rfl⟩
      · simp at hx

theorem owned_yes {c : Nat} {w : World} {p n : Nat} {S : Int → Option Lk} {N : Int → Int} (h : TB c w p n S N) (a t : Int) (ha : In a) (x : Lk) (hx : ownP S a t = some x) :
    ∃ m1 m2 F y, TP c w p n m1 m2 F S N ∧ F a = some y ∧ Calls Try.prog 29 #[.pointer (some ⟨p, 0, none⟩), .int .i64 a, .int .i64 t] w fun e w' => e = .returned (.pointer (some ⟨y.q, 0, none⟩)) ∧ w' = w := by
  obtain ⟨hs, ho, ht⟩ := ownP_some hx
  rcases h with ⟨h1, h2, rfl, rfl⟩ | ⟨m1, m2, F, h⟩
  · simp at hs
  · obtain ⟨y, hy, _⟩ := h.at hs
    refine ⟨m1, m2, F, y, h, hy, (owned_some h a t ha x hs y hy).mono ?_⟩
    rintro e w' ⟨rfl, rfl⟩
    rw [if_neg (fun e => e.elim (fun e => ht (ho.symm.trans e)) (fun e => e ho))]
    exact ⟨rfl, rfl⟩
end Go.Proofs.Ytkkpimpmhnnbjaa
