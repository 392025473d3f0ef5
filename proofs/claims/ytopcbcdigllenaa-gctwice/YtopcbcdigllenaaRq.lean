/- Both arenas beside rows of other kinds. -/
import Derived.Test.YtopcbcdigllenaaNr
import Derived.Test.YtopcbcdigllenaaP1
import Derived.Test.YtopcbcdigllenaaAp
namespace Go.Proofs.Ytopcbcdigllenaa
open Go.ChangeShapes Go.WideShapes Go.ChangeAt Go.RowKit

/-- Blocks that are of neither arena stay. -/
def Kp (w w' : World) : Prop := ∀ (k : Nat) (cs : Array Value) (t : TypeId), w.heap[k]? = some (.cells cs t (0, 0)) → t ≠ 28 → t ≠ 43 → t ≠ 40 → w'.heap[k]? = some (.cells cs t (0, 0))

theorem Kp.refl (w : World) : Kp w w := fun _ _ _ h _ _ _ => h

theorem Kp.trans {a b c : World} (h : Kp a b) (k : Kp b c) : Kp a c := fun i cs t h1 h2 h3 h4 => k i cs t (h i cs t h1 h2 h3 h4) h2 h3 h4

theorem Kp.of {w w' : World} (f : Fr no w w') : Kp w w' := fun _ _ _ h _ _ _ => f.heap h (fun x => x)

theorem OwnG.kp {α : Type} {K : El α} {w w' : World} {v : Value} {l : List α} (h : OwnG K w v l) (kp : Kp w w') (h1 : K.e ≠ 28) (h2 : K.e ≠ 43) (h3 : K.e ≠ 40) : OwnG K w' v l := by
  rcases h with h | ⟨g, o, cap, cur, e, hg, r⟩
  · exact .inl h
  · exact .inr ⟨g, o, cap, cur, e, kp g cur K.e hg h1 h2 h3, r⟩

theorem Hf.progK {w wr w' : World} {p g q n : Nat} {bs bs' : List Blk} {T : List Ob} (h : Hf w wr p g q n bs T) (hp : HP w' p g bs') (f : Fr (fun k => k = g) wr w') : Hf w w' p g q n bs' T ∧ Kp wr w' := by
  refine ⟨(h.prog hp f).1, fun k cs t hk h1 _ _ => f.heap hk (fun e => ?_)⟩
  subst e
  have := h.hp.row
  rw [hk] at this
  simp only [Option.some.injEq, Obj.cells.injEq] at this
  exact h1 this.2.1

theorem Hf.docK {w wr w' : World} {p g q n : Nat} {bs : List Blk} {T T' : List Ob} (h : Hf w wr p g q n bs T) (rr : RR w' q g (n : Int) T') (rb : RB w.heap.size w' q T') (f : Fr (TS w.heap.size wr) wr w') : Hf w w' p g q n bs T' ∧ Kp wr w' := by
  refine ⟨(h.doc rr rb f).1, fun k cs t hk _ h1 h2 => f.heap hk (fun hts => ?_)⟩
  obtain ⟨-, cs', t', hk', hh⟩ := hts
  rw [hk] at hk'
  simp only [Option.some.injEq, Obj.cells.injEq] at hk'
  rw [← hk'.2.1] at hh
  rcases hh with hh | hh
  · exact h1 hh
  · exact h2 hh

/-- Alloc of both where there is room. -/
theorem two_some {w wr : World} {p g q n : Nat} {bs : List Blk} {T : List Ob} (h : Pl w wr p g q n bs T) (c m o : Nat) (hc : c < 9223372036854775808) (hr : roomAt m bs = some o) :
    (Calls Try.prog 11 #[.pointer (some ⟨p, 0, none⟩), .int .i64 (c : Int), .int .i64 (m : Int)] wr fun e w3 => e = .returned (.tuple #[.int .i64 ((o : Int) + 1), .int .i64 0]) ∧ Hf w w3 p g q n (allocB c m bs) T ∧ Kp wr w3) ∧
      ∀ w3, Hf w w3 p g q n (allocB c m bs) T → Calls Try.prog 12 #[.pointer (some ⟨q, 0, none⟩), .int .i64 (c : Int), .int .i64 (m : Int)] w3 fun e w4 => e = .returned (.tuple #[.int .i64 ((o : Int) + 1), .int .i64 0]) ∧ ∃ T', Pl w w4 p g q n (allocB c m bs) T' ∧ Kp w3 w4 := by
  have AL := alloc_nat wr p g bs h.hf.hp c m hc
  have hlen := h.lk.len.1
  have hle := h.lk.le
  have hfree := h.lk.free
  rw [← h.lk.gaps] at hfree
  have hpg : placeG (m : Int) (gaps (n : Int) 1 T) = rmA (roomAt m bs) := by rw [h.lk.gaps, placeG_rm]
  rw [hr] at AL
  rw [hr] at hpg
  obtain ⟨A, B, rfl, hA, hB, hm, hlk⟩ := h.lk.alloc (c := c) hr
  refine ⟨AL.mono fun e w3 ⟨h1, h2, h3⟩ => ⟨h1, h.hf.progK h2 h3⟩, fun w3 h3 => ?_⟩
  refine (refAlloc_some w3 q g (n : Int) A B h3.rr h3.rb h3.fr.size (lt_of_heap h3.hp.row) (by omega) h.lk.low (by omega) c m hm hfree.1 hfree.2 ((o : Int) + 1) hpg (by omega) hA hB).mono fun e w4 ⟨h1, bb, h2, h4, h5⟩ => ?_
  obtain ⟨k1, k2⟩ := h3.docK h2 h4 h5
  refine ⟨h1, _, ⟨k1, hlk _, fun x hx => ?_⟩, k2⟩
  rcases List.mem_append.1 hx with hx | hx
  · exact h.cl x (List.mem_append_left _ hx)
  · rcases List.mem_cons.1 hx with rfl | hx
    · simp only []
      omega
    · exact h.cl x (List.mem_append_right _ hx)

theorem rel_progK {w wr : World} {p g q n : Nat} {bs : List Blk} {T : List Ob} (h : Hf w wr p g q n bs T) (a : Int) (ha : a ≤ 9223372036854775807) :
    Calls Try.prog 13 #[.pointer (some ⟨p, 0, none⟩), .int .i64 a] wr fun e w3 => e = .returned (.int .i64 (errA (beg bs a))) ∧ Hf w w3 p g q n (freeB bs a) T ∧ Kp wr w3 :=
  (release_any wr p g bs h.hp a ha).mono fun _ _ ⟨h1, h2, h3⟩ => ⟨h1, h.progK h2 h3⟩

theorem rel_docK {w wr : World} {p g q n : Nat} {bs : List Blk} {T : List Ob} (h : Hf w wr p g q n bs T) (a : Int) (hl : T.length ≤ 3000) :
    Calls Try.prog 14 #[.pointer (some ⟨q, 0, none⟩), .int .i64 a] wr fun e w3 => e = .returned (.int .i64 (errA (findO T a).isSome)) ∧ Hf w w3 p g q n bs (match findO T a with | some i => T.take i ++ T.drop (i + 1) | none => T) ∧ Kp wr w3 := by
  cases hf : findO T a with
  | none =>
    refine (refRelease_none wr q g (n : Int) T h.rr a hl hf).mono fun e w3 ⟨h1, h2⟩ => ?_
    subst h2
    exact ⟨h1, h, Kp.refl _⟩
  | some i =>
    have RL := refRelease_any wr q g (n : Int) T h.rr a hl
    rw [hf] at RL
    refine RL.mono fun e w3 ⟨h1, h2, h3, h4⟩ => ⟨h1, h.docK h2 ⟨h.rb.low, fun v hv k hk => ?_, fun o ho k hk => ?_⟩ (h3.mono fun k hk e => ?_)⟩
    · have := h4 rfl v hv k hk
      have := h.fr.size
      omega
    · rcases List.mem_append.1 ho with ho | ho
      · exact h.rb.b o (List.mem_of_mem_take ho) k hk
      · exact h.rb.b o (List.mem_of_mem_drop ho) k hk
    · subst e
      obtain ⟨v0, hq0, -, -⟩ := h.rr.cellv
      exact ⟨h.rb.low, _, 43, hq0, .inl rfl⟩

/-- Release of both: the program's first. -/
theorem two_rel {w wr : World} {p g q n : Nat} {bs : List Blk} {T : List Ob} (h : Pl w wr p g q n bs T) (a : Int) (ha : a ≤ 9223372036854775807) :
    ∃ er T', (∀ w1, Hf w w1 p g q n bs T → Calls Try.prog 13 #[.pointer (some ⟨p, 0, none⟩), .int .i64 a] w1 fun e w3 => e = .returned (.int .i64 er) ∧ Hf w w3 p g q n (freeB bs a) T ∧ Kp w1 w3) ∧
      ∀ w1, Hf w w1 p g q n (freeB bs a) T → Calls Try.prog 14 #[.pointer (some ⟨q, 0, none⟩), .int .i64 a] w1 fun e w3 => e = .returned (.int .i64 er) ∧ Pl w w3 p g q n (freeB bs a) T' ∧ Kp w1 w3 := by
  have hfa := find_at h.lk a
  have hlen := h.lk.len.1
  refine ⟨errA (beg bs a), (match findO T a with | some i => T.take i ++ T.drop (i + 1) | none => T), fun w1 h1 => rel_progK h1 a ha, fun w1 h1 => ?_⟩
  have := rel_docK h1 a (by omega)
  rw [hfa] at this
  refine this.mono fun e w3 ⟨x1, x2, x3⟩ => ⟨x1, ⟨x2, h.lk.release a, fun o ho => ?_⟩, x3⟩
  cases hf : findO T a with
  | none => rw [hf] at ho; exact h.cl o ho
  | some i =>
    rw [hf] at ho
    rcases List.mem_append.1 ho with ho | ho
    · exact h.cl o (List.mem_of_mem_take ho)
    · exact h.cl o (List.mem_of_mem_drop ho)

theorem own_not' {α : Type} {K : El α} {w : World} {v : Value} {l : List α} (h : OwnG K w v l) {m : Nat} {c : Array Value} {t : TypeId} (hm : w.heap[m]? = some (.cells c t (0, 0))) (hne : K.e ≠ t) : v.ownBlock ≠ some m := fun e => by
  obtain ⟨c1, e1⟩ := h.tag e
  rw [e1] at hm
  simp only [Option.some.injEq, Obj.cells.injEq] at hm
  exact hne hm.2.1

/-- A row of another kind turns: both arenas stay. -/
theorem Hf.row {w wr w' : World} {p g q n : Nat} {bs : List Blk} {T : List Ob} (h : Hf w wr p g q n bs T) {α : Type} {K : El α} {v : Value} {l : List α} (ho : OwnG K wr v l) (h1 : K.e ≠ 75) (h2 : K.e ≠ 28) (h3 : K.e ≠ 43) (h4 : K.e ≠ 40) (hv : NewV w v) (f : Fr (fun k => v.ownBlock = some k) wr w') : Hf w w' p g q n bs T := by
  have key : ∀ k cs t, wr.heap[k]? = some (.cells cs t (0, 0)) → K.e ≠ t → v.ownBlock ≠ some k := fun k cs t hk hne e => own_not' ho hk hne e
  obtain ⟨v0, hq0, ho0, hc0⟩ := h.rr.cellv
  refine ⟨h.hp.kept f (key _ _ _ h.hp.hd h1) (key _ _ _ h.hp.row h2), h.rr.kept f (fun k hk => ?_), ⟨h.rb.low, fun u hu k hk => ?_, h.rb.b⟩, h.gb, h.fr.new f (fun i hi e => by have := hv i e; omega)⟩
  · rcases hk with rfl | ⟨u, s, e1, e2⟩ | ⟨o, ho1, hb⟩
    · exact key _ _ _ hq0 h3
    · rw [hq0] at e1
      simp only [Option.some.injEq, Obj.cells.injEq, Array.mk.injEq, List.cons.injEq, and_true] at e1
      obtain ⟨-, rfl⟩ := e1
      obtain ⟨cur, hc⟩ := ho0.tag e2
      exact key _ _ _ hc h4
    · obtain ⟨b, hb', -, hc⟩ := h.rr.wd o ho1
      rw [hb] at hb'
      simp only [Option.some.injEq] at hb'
      subst hb'
      exact key _ _ _ hc h2
  · have := f.cell hc0 (key _ _ _ hq0 h3)
    rw [hu] at this
    simp only [Option.some.injEq] at this
    subst this
    exact h.rb.v _ hc0 k hk

/-- Objects in a row, then what is free. -/
def Row3 (i : Nat) (bs : List Blk) : Prop := ∃ os j, AllO os ∧ bs = os ++ [.free j] ∧ siz os + (j.length + 1) = 600 ∧ siz os ≤ 13 * i

theorem row3_new : Row3 0 (newB 600) := by
  rw [newB_pos 600 (by decide)]
  exact ⟨[], List.replicate (600 - 1) 0, fun b hb => (List.not_mem_nil hb).elim, rfl, by rw [siz_nil, List.length_replicate], by rw [siz_nil]; exact Nat.zero_le _⟩

theorem row3_next {i : Nat} {bs : List Blk} (h : Row3 i bs) (hi : i < 31) (c n : Nat) (hn : n ≤ 11) :
    ∃ o, roomAt n bs = some o ∧ Row3 (i + 1) (allocB c n bs) ∧ objsA 0 (allocB c n bs) = objsA 0 bs ++ [(o : Int) + 1] ∧ o < 600 := by
  obtain ⟨os, j, ho, rfl, hs, hle⟩ := h
  have hr : roomAt n [Blk.free j] = some 0 := by
    rw [roomAt, if_pos (by simp [Blk.room]; omega)]
  have ha : allocB c n (os ++ [.free j]) = (os ++ [.obj c (List.replicate n 0)]) ++ [.free (j.drop (n + 2))] := by
    rw [allocB_objs ho, allocB, if_pos (by omega)]
    unfold carve
    rw [if_neg (by omega)]
    simp
  refine ⟨siz os, by rw [roomAt_objs ho, hr]; simp, ⟨os ++ [.obj c (List.replicate n 0)], j.drop (n + 2), ?_, ha, ?_, ?_⟩, ?_, by omega⟩
  · intro b hb
    rcases List.mem_append.1 hb with h | h
    · exact ho b h
    · simp at h
      rw [h]
      rfl
  · rw [siz_append, siz_cons, siz_nil]
    simp [Blk.len]
    omega
  · rw [siz_append, siz_cons, siz_nil]
    simp [Blk.len]
    omega
  · rw [ha]
    simp [objsA_eq, objL_append, objL]
end Go.Proofs.Ytopcbcdigllenaa
