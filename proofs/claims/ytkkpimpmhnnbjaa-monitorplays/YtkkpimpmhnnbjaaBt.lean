/- The program's table and the document's, side by side. -/
import Derived.Test.YtkkpimpmhnnbjaaLu
namespace Go.Proofs.Ytkkpimpmhnnbjaa
open Go.ChangeShapes Go.WideShapes Go.ChangeAt Go.RowKit

theorem kd_tm {c : Nat} {w : World} {k : Nat} (h : Kd w k) : ¬ Tm c w k := by
  rintro ⟨-, h2⟩
  obtain ⟨cur, t, hc, ht⟩ := h
  rcases h2 with ⟨es, cl, hm⟩ | ⟨cur2, t2, hc2, ht2⟩
  · rw [hc] at hm
    simp at hm
  · rw [hc] at hc2
    simp only [Option.some.injEq, Obj.cells.injEq] at hc2
    obtain ⟨-, rfl, -⟩ := hc2
    rcases ht with rfl | rfl | rfl <;> rcases ht2 with h | h | h <;> simp at h

theorem tm_td {c : Nat} {w : World} {k : Nat} (h : Tm c w k) : ¬ Td c w k := by
  rintro ⟨-, cur, t, hc, ht⟩
  exact kd_tm ⟨cur, t, hc, by rcases ht with rfl | rfl; exact .inl rfl; exact .inr (.inl rfl)⟩ h

theorem DB.kept {c : Nat} {w w' : World} {q : Nat} {T : List (Int × Lk)} {S : Nat → Prop} (h : DB c w q T) (hf : Fr S w w') (hS : ∀ k, Kd w k → ¬ S k) : DB c w' q T := by
  obtain ⟨D, hD, e⟩ := h
  exact ⟨D, hD.kept hf hS, e⟩

theorem DB.tm {c : Nat} {w w' : World} {q : Nat} {T : List (Int × Lk)} (h : DB c w q T) (hf : Fr (Tm c w) w w') : DB c w' q T := h.kept hf (fun _ hk => kd_tm hk)
theorem DB.keep {c : Nat} {w w' : World} {q : Nat} {T : List (Int × Lk)} (h : DB c w q T) (hf : Fr no w w') : DB c w' q T := h.kept hf (fun _ _ f => f)

theorem TB.td {c : Nat} {w w' : World} {p n : Nat} {S : Int → Option Lk} {N : Int → Int} (h : TB c w p n S N) (hf : Fr (Td c w) w w') : TB c w' p n S N := by
  rcases h with ⟨h1, h2, h3, h4⟩ | ⟨m1, m2, F, h⟩
  · refine .inl ⟨h1, hf.heap h2 ?_, h3, h4⟩
    exact fun k => tm_td ⟨h1, .inr ⟨_, 61, h2, .inl rfl⟩⟩ k
  · exact .inr ⟨m1, m2, F, h.kept hf (fun _ hk => tm_td hk)⟩

theorem Jt.td {W w w' : World} {p n : Nat} {s : St} (h : Jt W w p n s) (hf : Fr (Td W.heap.size w) w w') : Jt W w' p n s :=
  ⟨h.tb.td hf, h.bd, h.fr.new hf (fun i hi f => by have := f.1; omega)⟩

/-- Both tables, as they are. -/
structure Bt (W w : World) (p q n : Nat) (s : St) (T : List (Int × Lk)) : Prop where
  jt : Jt W w p n s
  db : DB W.heap.size w q T
  lnk : Lnk s T
  len : T.length ≤ n

section
variable {W w : World} {p q n : Nat} {s : St} {T : List (Int × Lk)}

theorem Bt.keep {w' : World} (h : Bt W w p q n s T) (f : Fr no w w') : Bt W w' p q n s T := ⟨h.jt.keep f, h.db.keep f, h.lnk, h.len⟩
theorem Bt.mono {n' : Nat} (h : Bt W w p q n s T) (hn : n ≤ n') : Bt W w p q n' s T := ⟨h.jt.mono hn, h.db, h.lnk, Nat.le_trans h.len hn⟩

theorem Bt.bds (h : Bt W w p q n s T) : ∀ r ∈ T, r.2.entry.length + r.2.wait.length ≤ n ∧ 0 ≤ r.2.count ∧ r.2.count ≤ n := by
  rintro ⟨a, x⟩ hr
  have e1 := dLk_of_mem h.lnk.keys hr
  rw [h.lnk.lk] at e1
  unfold St.lk at e1
  simp only []
  cases hs : s.S a with
  | none =>
    rw [hs] at e1
    simp only [Option.getD_none] at e1
    subst e1
    exact ⟨by simp [lk0], by simp [lk0], by simp [lk0]⟩
  | some y =>
    rw [hs] at e1
    simp only [Option.getD_some] at e1
    subst e1
    have := h.jt.bd.lk a y hs
    exact ⟨this.len, this.cnt⟩

theorem Bt.enter1 (h : Bt W w p q n s T) (hn : n ≤ 1000) (a t : Int) (ha : In a) (ht : In t) :
    Calls Try.prog 10 #[.pointer (some ⟨p, 0, none⟩), .int .i64 a, .int .i64 t] w fun e w' => e = .returned (.tuple #[.bool (enR a t s), .int .i64 (enE a t s)]) ∧ (Jt W w' p (n + 2) (enS a t s) ∧ DB W.heap.size w' q T) ∧ Fr (Tm W.heap.size w) w w' :=
  (h.jt.enter (by omega) a t ha ht).mono fun _ _ ⟨he, j, f⟩ => ⟨he, ⟨j, h.db.tm f⟩, f⟩
theorem Bt.enter2 (h : Bt W w p q n s T) (hn : n ≤ 1000) (a t : Int) {w1 : World} (m : Jt W w1 p (n + 2) (enS a t s) ∧ DB W.heap.size w1 q T) :
    Calls Try.prog 11 #[.pointer (some ⟨q, 0, none⟩), .int .i64 a, .int .i64 t] w1 fun e w' => e = .returned (.tuple #[.bool (enR a t s), .int .i64 (enE a t s)]) ∧ Bt W w' p q (n + 2) (enS a t s) (dEnterP a t T).2.2 ∧ Fr (Td W.heap.size w1) w1 w' := by
  obtain ⟨l1, l2, l3⟩ := h.lnk.enter a t
  refine (dEnter_any m.2 a t (by have := h.len; omega) (fun r hr => by have := h.bds r hr; omega)).mono ?_
  rintro e w' ⟨rfl, db, f⟩
  refine ⟨by rw [l2, l3], ⟨m.1.td f, db, l1, ?_⟩, f⟩
  have := h.len
  by_cases hb : dStand T t = true ∨ a < 1 ∨ t < 1
  · have e : dEnterP a t T = (false, 130, T) := by
      rcases hb with hb | hb
      · exact dEnterP_stand hb
      · exact dEnterP_bad hb
    rw [e]
    simp only []
    omega
  · obtain ⟨x, -, hP⟩ := dWith_at a T
    have hst : dStand T t = false := by
      cases hd : dStand T t with
      | false => rfl
      | true => exact absurd (.inl hd) hb
    rw [hP t (by omega) (by omega) hst]
    simp only [List.length_set]
    unfold dWith
    split
    · simp; omega
    · omega

theorem Bt.exit1 (h : Bt W w p q n s T) (hn : n ≤ 1000) (a t : Int) (ha : In a) :
    Calls Try.prog 12 #[.pointer (some ⟨p, 0, none⟩), .int .i64 a, .int .i64 t] w fun e w' => e = .returned (.tuple #[.int .i64 (exR a t s), .int .i64 (exE a t s)]) ∧ (Jt W w' p (n + 2) (exS a t s) ∧ DB W.heap.size w' q T) ∧ Fr (Tm W.heap.size w) w w' :=
  (h.jt.exit (by omega) a t ha).mono fun _ _ ⟨he, j, f⟩ => ⟨he, ⟨j, h.db.tm f⟩, f⟩
theorem Bt.exit2 (h : Bt W w p q n s T) (hn : n ≤ 1000) (a t : Int) {w1 : World} (m : Jt W w1 p (n + 2) (exS a t s) ∧ DB W.heap.size w1 q T) :
    Calls Try.prog 13 #[.pointer (some ⟨q, 0, none⟩), .int .i64 a, .int .i64 t] w1 fun e w' => e = .returned (.tuple #[.int .i64 (exR a t s), .int .i64 (exE a t s)]) ∧ Bt W w' p q (n + 2) (exS a t s) (dExitP a t T).2.2 ∧ Fr (Td W.heap.size w1) w1 w' := by
  obtain ⟨l1, l2, l3⟩ := h.lnk.exit a t
  refine (dExit_any m.2 a t (by have := h.len; omega) (fun i x hx => by have := h.bds _ (List.mem_of_getElem? hx); unfold In; simp only [] at this; omega)).mono ?_
  rintro e w' ⟨rfl, db, f⟩
  refine ⟨by rw [l2, l3], ⟨m.1.td f, db, l1, ?_⟩, f⟩
  have := h.len
  unfold dExitP
  split
  · simp only []; omega
  · split <;> simp only [List.length_set] <;> omega

theorem Bt.wait1 (h : Bt W w p q n s T) (hn : n ≤ 1000) (a t : Int) (ha : In a) (ht : In t) :
    Calls Try.prog 14 #[.pointer (some ⟨p, 0, none⟩), .int .i64 a, .int .i64 t] w fun e w' => e = .returned (.tuple #[.int .i64 (waR a t s), .int .i64 (waE a t s)]) ∧ (Jt W w' p (n + 2) (waS a t s) ∧ DB W.heap.size w' q T) ∧ Fr (Tm W.heap.size w) w w' :=
  (h.jt.wait (by omega) a t ha ht).mono fun _ _ ⟨he, j, f⟩ => ⟨he, ⟨j, h.db.tm f⟩, f⟩
theorem Bt.wait2 (h : Bt W w p q n s T) (hn : n ≤ 1000) (a t : Int) {w1 : World} (m : Jt W w1 p (n + 2) (waS a t s) ∧ DB W.heap.size w1 q T) :
    Calls Try.prog 15 #[.pointer (some ⟨q, 0, none⟩), .int .i64 a, .int .i64 t] w1 fun e w' => e = .returned (.tuple #[.int .i64 (waR a t s), .int .i64 (waE a t s)]) ∧ Bt W w' p q (n + 2) (waS a t s) (dWaitP a t T).2.2 ∧ Fr (Td W.heap.size w1) w1 w' := by
  obtain ⟨l1, l2, l3⟩ := h.lnk.wait a t
  refine (dWait_any m.2 a t (by have := h.len; omega) (fun i x hx => by have := h.bds _ (List.mem_of_getElem? hx); simp only [] at this; omega)).mono ?_
  rintro e w' ⟨rfl, db, f⟩
  refine ⟨by rw [l2, l3], ⟨m.1.td f, db, l1, ?_⟩, f⟩
  have := h.len
  unfold dWaitP
  split <;> simp only [List.length_set] <;> omega

theorem Bt.notify1 (h : Bt W w p q n s T) (hn : n ≤ 1000) (a t : Int) (b : Bool) (ha : In a) :
    Calls Try.prog 16 #[.pointer (some ⟨p, 0, none⟩), .int .i64 a, .int .i64 t, .bool b] w fun e w' => e = .returned (.tuple #[.int .i64 (noR a t b s), .int .i64 (noE a t b s)]) ∧ (Jt W w' p (n + 2) (noS a t b s) ∧ DB W.heap.size w' q T) ∧ Fr (Tm W.heap.size w) w w' :=
  (h.jt.notify (by omega) a t b ha).mono fun _ _ ⟨he, j, f⟩ => ⟨he, ⟨j, h.db.tm f⟩, f⟩
theorem Bt.notify2 (h : Bt W w p q n s T) (hn : n ≤ 1000) (a t : Int) (b : Bool) {w1 : World} (m : Jt W w1 p (n + 2) (noS a t b s) ∧ DB W.heap.size w1 q T) :
    Calls Try.prog 17 #[.pointer (some ⟨q, 0, none⟩), .int .i64 a, .int .i64 t, .bool b] w1 fun e w' => ∃ so k sc, e = .returned (.tuple #[.slice so k sc, .int .i64 (noE a t b s)]) ∧ noR a t b s = (k : Int) ∧ Bt W w' p q (n + 2) (noS a t b s) (dNotifyP a t b T).2.2 ∧ Fr (Td W.heap.size w1) w1 w' := by
  obtain ⟨l1, l2, l3⟩ := h.lnk.notify a t b
  refine (dNotify_any m.2 a t b (by have := h.len; omega) (fun r hr => by have := h.bds r hr; omega)).mono ?_
  rintro e w' ⟨so, sc, rfl, db, f⟩
  refine ⟨so, _, sc, by rw [l3], l2, ⟨m.1.td f, db, l1, ?_⟩, f⟩
  have := h.len
  unfold dNotifyP
  split <;> simp only [List.length_set] <;> omega
end
end Go.Proofs.Ytkkpimpmhnnbjaa
