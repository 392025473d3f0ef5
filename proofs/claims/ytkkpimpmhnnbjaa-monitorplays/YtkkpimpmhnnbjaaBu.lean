/- The program's table and the document's, side by side: Forget, Lock, Held, New. -/
import Derived.Test.YtkkpimpmhnnbjaaBt
import Derived.Test.YtkkpimpmhnnbjaaSc
namespace Go.Proofs.Ytkkpimpmhnnbjaa
open Go.ChangeShapes Go.WideShapes Go.ChangeAt Go.RowKit

section
variable {W w : World} {p q n : Nat} {s : St} {T : List (Int × Lk)}

theorem Bt.forget1 (h : Bt W w p q n s T) (a : Int) (ha : In a) :
    Calls Try.prog 18 #[.pointer (some ⟨p, 0, none⟩), .int .i64 a] w fun e w' => e = .returned (.int .i64 (foE a s)) ∧ (Jt W w' p (n + 2) (foS a s) ∧ DB W.heap.size w' q T) ∧ Fr (Tm W.heap.size w) w w' :=
  (h.jt.forget a ha).mono fun _ _ ⟨he, j, f⟩ => ⟨he, ⟨j, h.db.tm f⟩, f⟩
theorem Bt.forget2 (h : Bt W w p q n s T) (hn : n ≤ 1000) (a : Int) {w1 : World} (m : Jt W w1 p (n + 2) (foS a s) ∧ DB W.heap.size w1 q T) :
    Calls Try.prog 19 #[.pointer (some ⟨q, 0, none⟩), .int .i64 a] w1 fun e w' => e = .returned (.int .i64 (foE a s)) ∧ Bt W w' p q (n + 2) (foS a s) (dForgetP a T).2 ∧ Fr (Td W.heap.size w1) w1 w' := by
  obtain ⟨l1, l2⟩ := h.lnk.forget a
  refine (dForget_any m.2 a (by have := h.len; omega)).mono ?_
  rintro e w' ⟨rfl, db, f⟩
  refine ⟨by rw [l2], ⟨m.1.td f, db, l1, ?_⟩, f⟩
  have := h.len
  unfold dForgetP
  split
  · simp only []; omega
  · split
    · simp only []; omega
    · split
      · simp only [List.length_append, List.length_take, List.length_drop]; omega
      · simp only []; omega

theorem Bt.lock1 (h : Bt W w p q n s T) (hn : n ≤ 1000) (a : Int) (ha : In a) :
    Calls Try.prog 21 #[.pointer (some ⟨p, 0, none⟩), .int .i64 a] w fun e w' => ∃ o1 c1 o2 c2, e = .returned (.agg #[.int .i64 (s.lk a).owner, .int .i64 (s.lk a).count, .bool (s.lk a).fat, .slice o1 (fsts (s.lk a).entry).length c1, .slice o2 (fsts (s.lk a).wait).length c2]) ∧ OwnG elI w' (.slice o1 (fsts (s.lk a).entry).length c1) (fsts (s.lk a).entry) ∧ OwnG elI w' (.slice o2 (fsts (s.lk a).wait).length c2) (fsts (s.lk a).wait) ∧ Fr no w w' :=
  (lock_any h.jt.tb h.jt.bd (by omega) a ha).mono fun _ _ ⟨v1, v2, he, k1, k2, f⟩ => by
    obtain ⟨o1, c1, rfl⟩ := k1.form
    obtain ⟨o2, c2, rfl⟩ := k2.form
    exact ⟨o1, c1, o2, c2, he, k1, k2, f⟩
theorem Bt.lock2 (h : Bt W w p q n s T) (hn : n ≤ 1000) (a : Int) :
    Calls Try.prog 22 #[.pointer (some ⟨q, 0, none⟩), .int .i64 a] w fun e w' => ∃ o1 c1 o2 c2, e = .returned (.agg #[.int .i64 (s.lk a).owner, .int .i64 (s.lk a).count, .bool (s.lk a).fat, .slice o1 (fsts (s.lk a).entry).length c1, .slice o2 (fsts (s.lk a).wait).length c2]) ∧ OwnG elI w' (.slice o1 (fsts (s.lk a).entry).length c1) (fsts (s.lk a).entry) ∧ OwnG elI w' (.slice o2 (fsts (s.lk a).wait).length c2) (fsts (s.lk a).wait) ∧ Fr no w w' := by
  have e := h.lnk.lk a
  refine (dLock_any h.db a (by have := h.len; omega) (fun r hr => by have := h.bds r hr; omega)).mono ?_
  rintro _ w' ⟨v1, v2, he, k1, k2, f⟩
  rw [e] at he k1 k2
  obtain ⟨o1, c1, rfl⟩ := k1.form
  obtain ⟨o2, c2, rfl⟩ := k2.form
  exact ⟨o1, c1, o2, c2, he, k1, k2, f⟩

theorem Bt.held1 (SC : SortC) (h : Bt W w p q n s T) (hn : n ≤ 1000) (t : Int) :
    Calls Try.prog 24 #[.pointer (some ⟨p, 0, none⟩), .int .i64 t] w fun e w' => ∃ o c, e = .returned (.slice o (heldF t T).length c) ∧ OwnG elI w' (.slice o (heldF t T).length c) (heldF t T) ∧ Fr no w w' :=
  (h.jt.held SC (by omega) t (h.lnk.held t)).mono fun _ _ ⟨o, c, he, k, _, f⟩ => ⟨o, c, he, k, f⟩
theorem Bt.held2 (h : Bt W w p q n s T) (hn : n ≤ 1000) (t : Int) :
    Calls Try.prog 25 #[.pointer (some ⟨q, 0, none⟩), .int .i64 t] w fun e w' => ∃ o c, e = .returned (.slice o (heldF t T).length c) ∧ OwnG elI w' (.slice o (heldF t T).length c) (heldF t T) ∧ Fr no w w' :=
  (dHeld_any h.db t (by have := h.len; omega)).mono fun _ _ ⟨v, he, k, f⟩ => by
    obtain ⟨o, c, rfl⟩ := k.form
    exact ⟨o, c, he, k, f⟩
end

/-- The document's table is begun. -/
theorem Bt.new {W w : World} {p : Nat} (h : Jt W w p 0 st0) : Bt W (w.alloc (.cells #[.slice none 0 0] 29)) p w.heap.size 0 st0 [] := by
  have f : Fr no w (w.alloc (.cells #[.slice none 0 0] 29)) := (Fr.refl no w).alloc _ _
  refine ⟨h.keep f, ⟨[], ⟨h.fr.size, ⟨_, heap_alloc_new w _, OwnG.nil _ _, fun b hb => by simp [Value.ownBlock] at hb⟩, fun d hd => by simp at hd⟩, rfl⟩, ⟨List.nodup_nil, fun a => rfl, fun t => rfl, fun r hr => by simp at hr⟩, Nat.le_refl _⟩

/-- A step's box: no call of either table turns it. -/
theorem box_tm {c : Nat} {w w' : World} {bx : Nat} {cs : Array Value} (h : w.heap[bx]? = some (.cells cs 31 (0, 0))) (f : Fr (Tm c w) w w') : w'.heap[bx]? = some (.cells cs 31 (0, 0)) :=
  f.heap h (fun ⟨_, k⟩ => by
    rcases k with ⟨es, cl, hm⟩ | ⟨cur, t, hc, ht⟩
    · rw [h] at hm; simp at hm
    · rw [h] at hc
      simp only [Option.some.injEq, Obj.cells.injEq] at hc
      obtain ⟨-, rfl, -⟩ := hc
      rcases ht with h | h | h <;> simp at h)
theorem box_td {c : Nat} {w w' : World} {bx : Nat} {cs : Array Value} (h : w.heap[bx]? = some (.cells cs 31 (0, 0))) (f : Fr (Td c w) w w') : w'.heap[bx]? = some (.cells cs 31 (0, 0)) :=
  f.heap h (fun ⟨_, cur, t, hc, ht⟩ => by
    rw [h] at hc
    simp only [Option.some.injEq, Obj.cells.injEq] at hc
    obtain ⟨-, rfl, -⟩ := hc
    rcases ht with h | h <;> simp at h)
end Go.Proofs.Ytkkpimpmhnnbjaa
