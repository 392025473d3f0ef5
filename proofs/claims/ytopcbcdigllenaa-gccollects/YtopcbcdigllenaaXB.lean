/- The document's arena anew, and both arenas anew. -/
import Derived.Test.YtopcbcdigllenaaP0
import Derived.Test.YtopcbcdigllenaaP1
import Derived.Test.YtopcbcdigllenaaAp
import Derived.Deep.RegionWith
import Derived.Test.YtopcbcdigllenaaH3
import Derived.Test.YtopcbcdigllenaaW0
import Derived.Test.YtopcbcdigllenaaMem
import Derived.OrdersHeld
import Derived.Deep.MidRow
namespace Go.Proofs.Ytopcbcdigllenaa
open Go.ChangeShapes Go.WideShapes Go.ChangeAt Go.RowKit

set_option maxRecDepth 100000 in
theorem refNew_eq (w : World) (words : Int) :
    Calls Try.prog 10 #[.int .i64 words] w fun e w' => e = .returned (.pointer (some ⟨w.heap.size, 0, none⟩)) ∧ w' = w.alloc (.cells #[.int .i64 ((sizeN words : Nat) : Int), .slice none 0 0] 43) := by
  have hs : ((sizeN words : Nat) : Int) = min (max words 0) 2048 := by unfold sizeN; omega
  generalize sizeN words = n at *
  by_cases h0 : words < 0
  · have e : Hid (((n : Nat) : Int) = 0) := by rw [Hid]; omega
    have h1 : ¬ ((2048 : Int) < words) := by omega
    have h2 : ¬ ((0 : Int) < words) := by omega
    clear hs
    go_enter Try.func10, Try.ntmps10
    go_wp2_with fail
    go_ret
    exact ⟨rfl, by rw [e.out]⟩
  · by_cases h1 : 2048 < words
    · have e : Hid (((n : Nat) : Int) = 2048) := by rw [Hid]; omega
      clear hs
      go_enter Try.func10, Try.ntmps10
      go_wp2_with fail
      go_ret
      exact ⟨rfl, by rw [e.out]⟩
    · have e : Hid (((n : Nat) : Int) = words) := by rw [Hid]; omega
      clear hs
      by_cases h2 : words = 0
      · subst h2
        go_enter Try.func10, Try.ntmps10
        go_wp2_with fail
        go_ret
        exact ⟨rfl, by rw [e.out]⟩
      · have h3 : (0 : Int) < words := by omega
        go_enter Try.func10, Try.ntmps10
        go_wp2_with fail
        go_ret
        exact ⟨rfl, by rw [e.out]⟩

theorem linked_new (n : Nat) (h : n ≤ 2048) : Linked n (newB n) [] := by
  have e := whole_new n
  refine ⟨?_, ?_, ?_, h⟩
  · unfold newB
    split <;> rfl
  · unfold newB
    split <;> rfl
  · exact e.size

/-- Both arenas anew. -/
theorem pl_new {w w1 w2 : World} {n : Nat} (hn : n ≤ 2048) (f1 : Fr no w w1) (h2 : HP w2 (w1.heap.size + 1) w1.heap.size (newB n)) (f2 : Fr no w1 w2) :
    Pl w (w2.alloc (.cells #[.int .i64 (n : Int), .slice none 0 0] 43)) (w1.heap.size + 1) w1.heap.size w2.heap.size n (newB n) [] := by
  have RN := refNew_run w2 (n : Int)
  have e : (w2.alloc (.cells #[.int .i64 (n : Int), .slice none 0 0] 43)).heap[w2.heap.size]? = some (.cells #[.int .i64 (n : Int), .slice none 0 0] 43 (0, 0)) := heap_alloc_new w2 _
  have s1 := f1.size
  have s2 := f2.size
  refine ⟨⟨h2.keep RN.2, ⟨RN.1.hd, fun o ho => by simp at ho, List.nodup_nil⟩, ⟨by omega, fun v hv k hk => ?_, fun o ho => by simp at ho⟩, f1.size, (f1.and f2).and RN.2⟩, linked_new n hn, fun o ho => by simp at ho⟩
  have e' : (w2.alloc (.cells #[.int .i64 (n : Int), .slice none 0 0] 43)).cell? ⟨w2.heap.size, 1, none⟩ = some (.slice none 0 0) := by
    unfold World.cell?
    rw [e]
    rfl
  rw [hv] at e'
  simp only [Option.some.injEq] at e'
  subst e'
  simp [Value.ownBlock] at hk
end Go.Proofs.Ytopcbcdigllenaa

/- Both arenas beside rows of other kinds. -/
namespace Go.Proofs.Ytopcbcdigllenaa
open Go.ChangeShapes Go.WideShapes Go.ChangeAt Go.RowKit

/-- Blocks that are of neither arena stay. -/
def Kp (w w' : World) : Prop := ∀ (k : Nat) (cs : Array Value) (t : TypeId), w.heap[k]? = some (.cells cs t (0, 0)) → t ≠ 28 → t ≠ 43 → t ≠ 40 → w'.heap[k]? = some (.cells cs t (0, 0))

theorem Kp.refl (w : World) : Kp w w := fun _ _ _ h _ _ _ => h

theorem Kp.trans {a b c : World} (h : Kp a b) (k : Kp b c) : Kp a c := fun i cs t h1 h2 h3 h4 => k i cs t (h i cs t h1 h2 h3 h4) h2 h3 h4

theorem Kp.of {w w' : World} (f : Fr no w w') : Kp w w' := fun _ _ _ h _ _ _ => f.heap h (fun x => x)

theorem OwnG.kp {α : Type} {K : El α} {w w' : World} {v : Value} {l : List α} (h : OwnG K w v l) (kp : Kp w w') (h1 : K.e ≠ 28) (h2 : K.e ≠ 43) (h3 : K.e ≠ 40) : OwnG K w' v l := by
  rcases h with h | ⟨g, o, cap, cur, e, hg, r⟩
  · exact .inl h
  · exact .inr ⟨g, o, cap, cur, e, kp g cur K.e hg h1 h2 h3, r⟩

theorem Hf.progK {w wr w' : World} {p g q n : Nat} {bs bs' : List Blk} {T : List Ob} (h : Hf w wr p g q n bs T) (hp : HP w' p g bs') (f : Fr (fun k => k = g) wr w') : Hf w w' p g q n bs' T ∧ Kp wr w' := by
  refine ⟨(h.prog hp f).1, fun k cs t hk h1 _ _ => f.heap hk (fun e => ?_)⟩
  subst e
  have := h.hp.row
  rw [hk] at this
  simp only [Option.some.injEq, Obj.cells.injEq] at this
  exact h1 this.2.1

theorem Hf.docK {w wr w' : World} {p g q n : Nat} {bs : List Blk} {T T' : List Ob} (h : Hf w wr p g q n bs T) (rr : RR w' q g (n : Int) T') (rb : RB w.heap.size w' q T') (f : Fr (TS w.heap.size wr) wr w') : Hf w w' p g q n bs T' ∧ Kp wr w' := by
  refine ⟨(h.doc rr rb f).1, fun k cs t hk _ h1 h2 => f.heap hk (fun hts => ?_)⟩
  obtain ⟨-, cs', t', hk', hh⟩ := hts
  rw [hk] at hk'
  simp only [Option.some.injEq, Obj.cells.injEq] at hk'
  rw [← hk'.2.1] at hh
  rcases hh with hh | hh
  · exact h1 hh
  · exact h2 hh

/-- Alloc of both where there is room. -/
theorem two_some {w wr : World} {p g q n : Nat} {bs : List Blk} {T : List Ob} (h : Pl w wr p g q n bs T) (c m o : Nat) (hc : c < 9223372036854775808) (hr : roomAt m bs = some o) :
    (Calls Try.prog 11 #[.pointer (some ⟨p, 0, none⟩), .int .i64 (c : Int), .int .i64 (m : Int)] wr fun e w3 => e = .returned (.tuple #[.int .i64 ((o : Int) + 1), .int .i64 0]) ∧ Hf w w3 p g q n (allocB c m bs) T ∧ Kp wr w3) ∧
      ∀ w3, Hf w w3 p g q n (allocB c m bs) T → Calls Try.prog 12 #[.pointer (some ⟨q, 0, none⟩), .int .i64 (c : Int), .int .i64 (m : Int)] w3 fun e w4 => e = .returned (.tuple #[.int .i64 ((o : Int) + 1), .int .i64 0]) ∧ ∃ T', Pl w w4 p g q n (allocB c m bs) T' ∧ Kp w3 w4 := by
  have AL := alloc_nat wr p g bs h.hf.hp c m hc
  have hlen := h.lk.len.1
  have hle := h.lk.le
  have hfree := h.lk.free
  rw [← h.lk.gaps] at hfree
  have hpg : placeG (m : Int) (gaps (n : Int) 1 T) = rmA (roomAt m bs) := by rw [h.lk.gaps, placeG_rm]
  rw [hr] at AL
  rw [hr] at hpg
  obtain ⟨A, B, rfl, hA, hB, hm, hlk⟩ := h.lk.alloc (c := c) hr
  refine ⟨AL.mono fun e w3 ⟨h1, h2, h3⟩ => ⟨h1, h.hf.progK h2 h3⟩, fun w3 h3 => ?_⟩
  refine (refAlloc_some w3 q g (n : Int) A B h3.rr h3.rb h3.fr.size (lt_of_heap h3.hp.row) (by omega) h.lk.low (by omega) c m hm hfree.1 hfree.2 ((o : Int) + 1) hpg (by omega) hA hB).mono fun e w4 ⟨h1, bb, h2, h4, h5⟩ => ?_
  obtain ⟨k1, k2⟩ := h3.docK h2 h4 h5
  refine ⟨h1, _, ⟨k1, hlk _, fun x hx => ?_⟩, k2⟩
  rcases List.mem_append.1 hx with hx | hx
  · exact h.cl x (List.mem_append_left _ hx)
  · rcases List.mem_cons.1 hx with rfl | hx
    · simp only []
      omega
    · exact h.cl x (List.mem_append_right _ hx)

theorem rel_progK {w wr : World} {p g q n : Nat} {bs : List Blk} {T : List Ob} (h : Hf w wr p g q n bs T) (a : Int) (ha : a ≤ 9223372036854775807) :
    Calls Try.prog 13 #[.pointer (some ⟨p, 0, none⟩), .int .i64 a] wr fun e w3 => e = .returned (.int .i64 (errA (beg bs a))) ∧ Hf w w3 p g q n (freeB bs a) T ∧ Kp wr w3 :=
  (release_any wr p g bs h.hp a ha).mono fun _ _ ⟨h1, h2, h3⟩ => ⟨h1, h.progK h2 h3⟩

theorem rel_docK {w wr : World} {p g q n : Nat} {bs : List Blk} {T : List Ob} (h : Hf w wr p g q n bs T) (a : Int) (hl : T.length ≤ 3000) :
    Calls Try.prog 14 #[.pointer (some ⟨q, 0, none⟩), .int .i64 a] wr fun e w3 => e = .returned (.int .i64 (errA (findO T a).isSome)) ∧ Hf w w3 p g q n bs (match findO T a with | some i => T.take i ++ T.drop (i + 1) | none => T) ∧ Kp wr w3 := by
  cases hf : findO T a with
  | none =>
    refine (refRelease_none wr q g (n : Int) T h.rr a hl hf).mono fun e w3 ⟨h1, h2⟩ => ?_
    subst h2
    exact ⟨h1, h, Kp.refl _⟩
  | some i =>
    have RL := refRelease_any wr q g (n : Int) T h.rr a hl
    rw [hf] at RL
    refine RL.mono fun e w3 ⟨h1, h2, h3, h4⟩ => ⟨h1, h.docK h2 ⟨h.rb.low, fun v hv k hk => ?_, fun o ho k hk => ?_⟩ (h3.mono fun k hk e => ?_)⟩
    · have := h4 rfl v hv k hk
      have := h.fr.size
      omega
    · rcases List.mem_append.1 ho with ho | ho
      · exact h.rb.b o (List.mem_of_mem_take ho) k hk
      · exact h.rb.b o (List.mem_of_mem_drop ho) k hk
    · subst e
      obtain ⟨v0, hq0, -, -⟩ := h.rr.cellv
      exact ⟨h.rb.low, _, 43, hq0, .inl rfl⟩

/-- Release of both: the program's first. -/
theorem two_rel {w wr : World} {p g q n : Nat} {bs : List Blk} {T : List Ob} (h : Pl w wr p g q n bs T) (a : Int) (ha : a ≤ 9223372036854775807) :
    ∃ er T', (∀ w1, Hf w w1 p g q n bs T → Calls Try.prog 13 #[.pointer (some ⟨p, 0, none⟩), .int .i64 a] w1 fun e w3 => e = .returned (.int .i64 er) ∧ Hf w w3 p g q n (freeB bs a) T ∧ Kp w1 w3) ∧
      ∀ w1, Hf w w1 p g q n (freeB bs a) T → Calls Try.prog 14 #[.pointer (some ⟨q, 0, none⟩), .int .i64 a] w1 fun e w3 => e = .returned (.int .i64 er) ∧ Pl w w3 p g q n (freeB bs a) T' ∧ Kp w1 w3 := by
  have hfa := find_at h.lk a
  have hlen := h.lk.len.1
  refine ⟨errA (beg bs a), (match findO T a with | some i => T.take i ++ T.drop (i + 1) | none => T), fun w1 h1 => rel_progK h1 a ha, fun w1 h1 => ?_⟩
  have := rel_docK h1 a (by omega)
  rw [hfa] at this
  refine this.mono fun e w3 ⟨x1, x2, x3⟩ => ⟨x1, ⟨x2, h.lk.release a, fun o ho => ?_⟩, x3⟩
  cases hf : findO T a with
  | none => rw [hf] at ho; exact h.cl o ho
  | some i =>
    rw [hf] at ho
    rcases List.mem_append.1 ho with ho | ho
    · exact h.cl o (List.mem_of_mem_take ho)
    · exact h.cl o (List.mem_of_mem_drop ho)

theorem own_not' {α : Type} {K : El α} {w : World} {v : Value} {l : List α} (h : OwnG K w v l) {m : Nat} {c : Array Value} {t : TypeId} (hm : w.heap[m]? = some (.cells c t (0, 0))) (hne : K.e ≠ t) : v.ownBlock ≠ some m := fun e => by
  obtain ⟨c1, e1⟩ := h.tag e
  rw [e1] at hm
  simp only [Option.some.injEq, Obj.cells.injEq] at hm
  exact hne hm.2.1

/-- A row of another kind turns: both arenas stay. -/
theorem Hf.row {w wr w' : World} {p g q n : Nat} {bs : List Blk} {T : List Ob} (h : Hf w wr p g q n bs T) {α : Type} {K : El α} {v : Value} {l : List α} (ho : OwnG K wr v l) (h1 : K.e ≠ 75) (h2 : K.e ≠ 28) (h3 : K.e ≠ 43) (h4 : K.e ≠ 40) (hv : NewV w v) (f : Fr (fun k => v.ownBlock = some k) wr w') : Hf w w' p g q n bs T := by
  have key : ∀ k cs t, wr.heap[k]? = some (.cells cs t (0, 0)) → K.e ≠ t → v.ownBlock ≠ some k := fun k cs t hk hne e => own_not' ho hk hne e
  obtain ⟨v0, hq0, ho0, hc0⟩ := h.rr.cellv
  refine ⟨h.hp.kept f (key _ _ _ h.hp.hd h1) (key _ _ _ h.hp.row h2), h.rr.kept f (fun k hk => ?_), ⟨h.rb.low, fun u hu k hk => ?_, h.rb.b⟩, h.gb, h.fr.new f (fun i hi e => by have := hv i e; omega)⟩
  · rcases hk with rfl | ⟨u, s, e1, e2⟩ | ⟨o, ho1, hb⟩
    · exact key _ _ _ hq0 h3
    · rw [hq0] at e1
      simp only [Option.some.injEq, Obj.cells.injEq, Array.mk.injEq, List.cons.injEq, and_true] at e1
      obtain ⟨-, rfl⟩ := e1
      obtain ⟨cur, hc⟩ := ho0.tag e2
      exact key _ _ _ hc h4
    · obtain ⟨b, hb', -, hc⟩ := h.rr.wd o ho1
      rw [hb] at hb'
      simp only [Option.some.injEq] at hb'
      subst hb'
      exact key _ _ _ hc h2
  · have := f.cell hc0 (key _ _ _ hq0 h3)
    rw [hu] at this
    simp only [Option.some.injEq] at this
    subst this
    exact h.rb.v _ hc0 k hk

/-- Objects in a row, then what is free. -/
def Row3 (i : Nat) (bs : List Blk) : Prop := ∃ os j, AllO os ∧ bs = os ++ [.free j] ∧ siz os + (j.length + 1) = 600 ∧ siz os ≤ 13 * i

theorem row3_new : Row3 0 (newB 600) := by
  rw [newB_pos 600 (by decide)]
  exact ⟨[], List.replicate (600 - 1) 0, fun b hb => (List.not_mem_nil hb).elim, rfl, by rw [siz_nil, List.length_replicate], by rw [siz_nil]; exact Nat.zero_le _⟩

theorem row3_next {i : Nat} {bs : List Blk} (h : Row3 i bs) (hi : i < 31) (c n : Nat) (hn : n ≤ 11) :
    ∃ o, roomAt n bs = some o ∧ Row3 (i + 1) (allocB c n bs) ∧ objsA 0 (allocB c n bs) = objsA 0 bs ++ [(o : Int) + 1] ∧ o < 600 := by
  obtain ⟨os, j, ho, rfl, hs, hle⟩ := h
  have hr : roomAt n [Blk.free j] = some 0 := by
    rw [roomAt, if_pos (by simp [Blk.room]; omega)]
  have ha : allocB c n (os ++ [.free j]) = (os ++ [.obj c (List.replicate n 0)]) ++ [.free (j.drop (n + 2))] := by
    rw [allocB_objs ho, allocB, if_pos (by omega)]
    unfold carve
    rw [if_neg (by omega)]
    simp
  refine ⟨siz os, by rw [roomAt_objs ho, hr]; simp, ⟨os ++ [.obj c (List.replicate n 0)], j.drop (n + 2), ?_, ha, ?_, ?_⟩, ?_, by omega⟩
  · intro b hb
    rcases List.mem_append.1 hb with h | h
    · exact ho b h
    · simp at h
      rw [h]
      rfl
  · rw [siz_append, siz_cons, siz_nil]
    simp [Blk.len]
    omega
  · rw [siz_append, siz_cons, siz_nil]
    simp [Blk.len]
    omega
  · rw [ha]
    simp [objsA_eq, objL_append, objL]
end Go.Proofs.Ytopcbcdigllenaa

/- An arena of some objects, of which some are gone: both arenas, and the addresses. -/
namespace Go.Proofs.Ytopcbcdigllenaa
open Go.ChangeShapes Go.WideShapes Go.ChangeAt Go.RowKit

/-- Both arenas beside a row of addresses. -/
structure Md (w wr : World) (p g q : Nat) (bs : List Blk) (T : List Ob) (v : Value) (l : List Int) : Prop where
  pl : Pl w wr p g q 600 bs T
  own : OwnG elI wr v l
  new : NewV w v
  low : ∀ a ∈ l, 1 ≤ a ∧ a ≤ 600

theorem Md.keep {w wr w' : World} {p g q : Nat} {bs : List Blk} {T : List Ob} {v : Value} {l : List Int} (h : Md w wr p g q bs T v l) (f : Fr no wr w') : Md w w' p g q bs T v l := ⟨h.pl.keep f, h.own.keep f, h.new, h.low⟩

theorem Md.push {w wr w' : World} {p g q : Nat} {bs : List Blk} {T : List Ob} {v v' : Value} {l : List Int} {a : Int} (h : Md w wr p g q bs T v l) (o : OwnG elI w' v' (l ++ [a])) (s : Sp v wr v' w') (ha : 1 ≤ a ∧ a ≤ 600) : Md w w' p g q bs T v' (l ++ [a]) := by
  refine ⟨⟨h.pl.hf.row h.own (by decide) (by decide) (by decide) (by decide) h.new s.1, h.pl.lk, h.pl.cl⟩, o, (h.new.step h.pl.hf.fr s).1, fun b hb => ?_⟩
  rcases List.mem_append.1 hb with hb | hb
  · exact h.low b hb
  · simp only [List.mem_singleton] at hb
    subst hb
    exact ha

set_option maxHeartbeats 8000000 in
set_option maxRecDepth 100000 in
theorem made_any (w : World) (vs vg : Value) (sizes gone : List Nat) (hs : RdG elY w vs sizes) (hg : RdG elY w vg gone) (hsl : sizes.length ≤ 30) (hgl : gone.length ≤ 10) (hsb : ∀ x ∈ sizes, x < 256) (hgb : ∀ x ∈ gone, x < 256) :
    Calls Try.prog 22 #[vs, vg] w fun e w' => ∃ p g q v l bs T, e = .returned (.tuple #[.pointer (some ⟨p, 0, none⟩), .pointer (some ⟨q, 0, none⟩), v]) ∧ Md w w' p g q bs T v l ∧ l.length = sizes.length ∧ (gone = [] → l = objsA 0 bs) := by
  have NW : Calls Try.prog 9 #[.int .i64 600] w fun e w' => e = .returned (.pointer (some ⟨w.heap.size + 1, 0, none⟩)) ∧ HP w' (w.heap.size + 1) w.heap.size (newB 600) ∧ Fr no w w' := new_any w 600
  have HS : Hid (RdG elY w vs sizes ∧ (∀ x ∈ sizes, x < 256)) := ⟨hs, hsb⟩
  have HG : Hid (RdG elY w vg gone ∧ (∀ x ∈ gone, x < 256)) := ⟨hg, hgb⟩
  obtain ⟨os, csn, e1⟩ := hs.form
  obtain ⟨og, cgn, e2⟩ := hg.form
  subst e1 e2
  clear hs hg hsb hgb
  generalize hln : sizes.length = ln at *
  generalize hgn : gone.length = gn at *
  go_enter Try.func22, Try.ntmps22
  go_wp2_with fail
  refine NW.mono ?_
  rintro e w2 ⟨rfl, h2, f2⟩
  have RN : Calls Try.prog 10 #[.int .i64 600] w2 fun e w' => e = .returned (.pointer (some ⟨w2.heap.size, 0, none⟩)) ∧ w' = w2.alloc (.cells #[.int .i64 (600 : Nat), .slice none 0 0] 43) := refNew_eq w2 600
  have H3 : Hid (Md w (w2.alloc (.cells #[.int .i64 (600 : Nat), .slice none 0 0] 43)) (w.heap.size + 1) w.heap.size w2.heap.size (newB 600) [] (.slice none 0 0) []) := ⟨pl_new (by decide) (Fr.refl no w) h2 f2, OwnG.nil _ _, NewV.nil _, fun a ha => by simp at ha⟩
  clear h2 f2 NW
  go_wp2_with fail
  refine RN.mono ?_
  rintro e w3 ⟨rfl, hw3⟩
  rw [← hw3] at H3
  clear hw3 RN
  generalize w.heap.size + 1 = p at *
  generalize hgg : w.heap.size = g at *
  generalize w2.heap.size = q at *
  go_wp2_with fail
  go_loopw [9, 10] (fun lv i wr => ∃ (t : Nat) (bs : List Blk) (T : List Ob), i = .int .i64 (t : Int) ∧ t ≤ ln ∧ Row3 t bs ∧ Md w wr p g q bs T lv (objsA 0 bs) ∧ (objsA 0 bs).length = t) (fun _ i _ => ln - (intOf i).toNat)
  case atStart =>
    refine ⟨0, newB 600, [], rfl, Nat.zero_le _, row3_new, ?_, ?_⟩
    · have e : objsA 0 (newB 600) = [] := by decide +kernel
      rw [e]
      exact H3.out
    · decide +kernel
  case round =>
    clear H3
    obtain ⟨t, bs, T, rfl, htn, hrow, hmd, hlt⟩ := hrel
    by_cases hti : t < ln
    · obtain ⟨x, hx⟩ : ∃ x, sizes[t]? = some x := ⟨_, List.getElem?_eq_getElem (by omega)⟩
      have hxb := HS.out.2 x (List.mem_of_getElem? hx)
      obtain ⟨b0, o0, hov, hcx⟩ := (HS.out.1.keep hmd.pl.hf.fr).at1 (u := .int .u8 (x : Int)) rfl rfl hx
      subst hov
      obtain ⟨m, hm⟩ : ∃ m : Nat, m = x % 12 := ⟨_, rfl⟩
      have e12 : (x : Int) % 12 = (m : Int) := by omega
      have e12' : (x : Int).tmod 12 = (m : Int) := by rw [hm]; rfl
      have hm11 : m ≤ 11 := by omega
      obtain ⟨o, hr, hrow2, hobj, ho600⟩ := row3_next hrow (by omega) t m hm11
      obtain ⟨AL, AD⟩ := two_some hmd.pl t m o (by omega) hr
      have hti' : (t : Int) < (ln : Int) := by omega
      have HX : Hid (Md w wr p g q bs T u9 (objsA 0 bs) ∧ Row3 (t + 1) (allocB t m bs) ∧ objsA 0 (allocB t m bs) = objsA 0 bs ++ [(o : Int) + 1] ∧ sizes[t]? = some x) := ⟨hmd, hrow2, hobj, hx⟩
      have HAD : Hid _ := AD
      clear AD hmd hrow hrow2 hobj hx hr hm
      generalize allocB t m bs = bs' at *
      go_wp2_with fail
      refine AL.mono ?_
      rintro e w4 ⟨rfl, h4, k4⟩
      have AD := HAD.out w4 h4
      obtain ⟨b1, o1, hov1, hcx4⟩ := (HS.out.1.keep h4.fr).at1 (u := .int .u8 (x : Int)) rfl rfl HX.out.2.2.2
      obtain ⟨rfl, rfl⟩ := same_at rfl hov1
      have K4 : Hid (Kp wr w4) := k4
      clear h4 k4 AL HAD hcx hov1
      go_wp2_with fail
      refine AD.mono ?_
      rintro e w5 ⟨rfl, T5, h5, k5⟩
      have M5 : Md w w5 p g q bs' T5 u9 (objsA 0 bs) := ⟨h5, HX.out.1.own.kp (K4.out.trans k5) (by decide) (by decide) (by decide), HX.out.1.new, HX.out.1.low⟩
      have HM5 : Hid (Md w (w5.alloc (.cells (elI.f ((o : Int) + 1)).toArray elI.e)) p g q bs' T5 u9 (objsA 0 bs)) := M5.keep ((Fr.refl no w5).alloc _ _)
      clear M5 h5 k5 AD K4 hcx4
      go_wp2_with (at_builtin; refine wpList_apdG elI_ok _ rfl rfl _ _ rfl u9 (objsA 0 bs) rfl HM5.out.own _ rfl [((o : Int) + 1)] (srcG_one elI_ok w5 ((o : Int) + 1)) (by simp; omega) ?_; intro v' w6 o6 s6; have H6 : Hid (Md w w6 p g q bs' T5 v' (objsA 0 bs ++ [(o : Int) + 1])) := HM5.out.push o6 s6 (by omega); clear o6 s6)
      go_roundw
      case rel => exact ⟨t + 1, bs', T5, by go_num, by omega, HX.out.2.1, by rw [HX.out.2.2.1]; exact H6.out, by rw [HX.out.2.2.1]; simp; omega⟩
      case measure => simp [intOf]; omega
    · obtain rfl : t = ln := by omega
      have HM : Hid (Md w wr p g q bs T u9 (objsA 0 bs)) := hmd
      obtain ⟨ol, cl, hu9⟩ := hmd.own.form
      rw [hlt] at hu9
      subst hu9
      clear hmd hrow
      go_wp2_with fail
      have hl600 := HM.out.low
      generalize hL : objsA 0 bs = L at *
      go_loopw [15] (fun i wr => ∃ (t2 : Nat) (bs2 : List Blk) (T2 : List Ob), i = .int .i64 (t2 : Int) ∧ t2 ≤ gn ∧ Md w wr p g q bs2 T2 (.slice ol t cl) L ∧ (gone = [] → L = objsA 0 bs2)) (fun i _ => gn - (intOf i).toNat)
      case atStart => exact ⟨0, bs, T, rfl, Nat.zero_le _, HM.out, fun _ => hL.symm⟩
      case round =>
        clear HM hL
        obtain ⟨t2, bs2, T2, rfl, htn2, hmd, hgo⟩ := hrel
        have HM : Hid (Md w wr p g q bs2 T2 (.slice ol t cl) L ∧ (gone = [] → L = objsA 0 bs2)) := ⟨hmd, hgo⟩
        by_cases h2 : t2 < gn
        · have h2' : (t2 : Int) < (gn : Int) := by omega
          by_cases h0 : 0 < t
          · have h0' : (0 : Int) < (t : Int) := by omega
            obtain ⟨y, hy⟩ : ∃ y, gone[t2]? = some y := ⟨_, List.getElem?_eq_getElem (by omega)⟩
            have hyb := HG.out.2 y (List.mem_of_getElem? hy)
            have hne : gone ≠ [] := fun e => by rw [e] at hy; simp at hy
            obtain ⟨b0, o0, hov, hcy⟩ := (HG.out.1.keep hmd.pl.hf.fr).at1 (u := .int .u8 (y : Int)) rfl rfl hy
            subst hov
            obtain ⟨kk, hkk⟩ : ∃ kk : Nat, kk = y % t := ⟨_, rfl⟩
            have ek : (y : Int) % (t : Int) = (kk : Int) := by rw [hkk]; rfl
            have ek' : (y : Int).tmod (t : Int) = (kk : Int) := by rw [hkk]; rfl
            have hkt : kk < t := by rw [hkk]; exact Nat.mod_lt _ h0
            have hkt' : (kk : Int) < (t : Int) := by omega
            have ht0 : ¬ ((t : Int) = 0) := by omega
            obtain ⟨a, ha⟩ : ∃ a, L[kk]? = some a := ⟨_, List.getElem?_eq_getElem (by omega)⟩
            have hal := hl600 a (List.mem_of_getElem? ha)
            obtain ⟨b1, o1, hol, hca⟩ := (hmd.own.rd elI_ok).at1 (u := .int .i64 a) rfl rfl ha
            subst hol
            obtain ⟨er, T3, RP, RD⟩ := two_rel hmd.pl a (by omega)
            have CP : Hid (∀ w1, Fr no wr w1 → Calls Try.prog 13 #[.pointer (some ⟨p, 0, none⟩), .int .i64 a] w1 fun e w3 => e = .returned (.int .i64 er) ∧ Hf w w3 p g q 600 (freeB bs2 a) T2 ∧ OwnG elI w3 (.slice (some ⟨b1, o1, none⟩) t cl) L ∧ w3.cell? ⟨b1, o1 + kk, none⟩ = some (.int .i64 a)) := fun w1 f1 => by
              refine (RP w1 (hmd.pl.hf.keep f1)).mono ?_
              rintro e w3 ⟨rfl, x1, x2⟩
              have o3 : OwnG elI w3 (.slice (some ⟨b1, o1, none⟩) t cl) L := (hmd.own.keep f1).kp x2 (by decide) (by decide) (by decide)
              obtain ⟨b3, o3', hol3, hc3⟩ := (o3.rd elI_ok).at1 (u := .int .i64 a) rfl rfl ha
              obtain ⟨rfl, rfl⟩ := same_at rfl hol3
              exact ⟨rfl, x1, o3, hc3⟩
            have CD : Hid (∀ w1, Hf w w1 p g q 600 (freeB bs2 a) T2 ∧ OwnG elI w1 (.slice (some ⟨b1, o1, none⟩) t cl) L → Calls Try.prog 14 #[.pointer (some ⟨q, 0, none⟩), .int .i64 a] w1 fun e w3 => e = .returned (.int .i64 er) ∧ Md w w3 p g q (freeB bs2 a) T3 (.slice (some ⟨b1, o1, none⟩) t cl) L) := fun w1 h1 => by
              refine (RD w1 h1.1).mono ?_
              rintro e w3 ⟨rfl, x1, x2⟩
              exact ⟨rfl, x1, h1.2.kp x2 (by decide) (by decide) (by decide), hmd.new, hmd.low⟩
            clear RP RD hmd hgo hy ha hkk
            go_wp2_with fail
            refine Code.wp_mono (Q := Exit.then _ (fun _ _ _ => False)) (fun e a w h => by cases e <;> first | exact h | exact False.elim h) ?_
            go_region_with (first | (go_at_call 13; refine (CP.out _ (by first | exact (Fr.refl no wr).drew | exact Fr.refl no wr)).mono ?_; rintro e w3 ⟨rfl, h3, o3, c3⟩; have H3 : Hid (Hf w w3 p g q 600 (freeB bs2 a) T2 ∧ OwnG elI w3 (.slice (some ⟨b1, o1, none⟩) t cl) L) := ⟨h3, o3⟩; clear h3 o3) | (go_at_call 14; refine (CD.out w3 H3.out).mono ?_; rintro e w4 ⟨rfl, h4⟩; have H4 : Hid (Md w w4 p g q (freeB bs2 a) T3 (.slice (some ⟨b1, o1, none⟩) t cl) L) := h4; clear h4))
            all_goals
              go_wp2_with fail
              go_roundw
              case rel => exact ⟨t2 + 1, _, _, by go_num, by omega, H4.out, fun e => absurd e hne⟩
              case measure => simp [intOf]; omega
          · have h0' : ¬ ((0 : Int) < (t : Int)) := by omega
            clear hmd hgo
            go_wp2_with fail
            go_ret3
            first | exact ⟨p, g, q, _, L, bs2, T2, rfl, HM.out.1, hlt, HM.out.2⟩ | exact ⟨p, g, q, _, rfl, L, bs2, ⟨T2, HM.out.1⟩, hlt, HM.out.2⟩
        · have h2' : ¬ ((t2 : Int) < (gn : Int)) := by omega
          clear hmd hgo
          go_wp2_with fail
          go_ret3
          first | exact ⟨p, g, q, _, L, bs2, T2, rfl, HM.out.1, hlt, HM.out.2⟩ | exact ⟨p, g, q, _, rfl, L, bs2, ⟨T2, HM.out.1⟩, hlt, HM.out.2⟩
end Go.Proofs.Ytopcbcdigllenaa

/- An arena beside rows of numbers that are one's own, each apart from the others. -/
namespace Go.Proofs.Ytopcbcdigllenaa
open Go.ChangeShapes Go.WideShapes Go.ChangeAt Go.RowKit

structure St (w wr : World) (p g : Nat) (bs : List Blk) (rs : List (Value × List Int)) : Prop where
  hp : HP wr p g bs
  own : ∀ (i : Nat) (r : Value × List Int), rs[i]? = some r → OwnG elI wr r.1 r.2
  new : ∀ (i : Nat) (r : Value × List Int), rs[i]? = some r → NewV w r.1
  ap : ∀ (i j : Nat) (r s : Value × List Int), i ≠ j → rs[i]? = some r → rs[j]? = some s → ∀ k, r.1.ownBlock = some k → s.1.ownBlock ≠ some k
  fr : Fr no w wr
  gb : w.heap.size ≤ g

theorem St.keep {w wr w' : World} {p g : Nat} {bs : List Blk} {rs : List (Value × List Int)} (h : St w wr p g bs rs) (f : Fr no wr w') : St w w' p g bs rs :=
  ⟨h.hp.keep f, fun i r hr => (h.own i r hr).keep f, h.new, h.ap, h.fr.and f, h.gb⟩

theorem St.turn {w wr w' : World} {p g : Nat} {bs bs' : List Blk} {rs : List (Value × List Int)} (h : St w wr p g bs rs) (h' : HP w' p g bs') (f : Fr (fun k => k = g) wr w') : St w w' p g bs' rs :=
  ⟨h', fun i r hr => (h.own i r hr).kept f (fun k hk e => own_not (h.own i r hr) h.hp.row (by decide) (by rw [hk, e])), h.new, h.ap, h.fr.new f (fun i hi e => by have := h.gb; omega), h.gb⟩

theorem St.push {w wr w' : World} {p g : Nat} {bs : List Blk} {rs : List (Value × List Int)} (h : St w wr p g bs rs) {i : Nat} {v v' : Value} {l l' : List Int} (hi : rs[i]? = some (v, l)) (o : OwnG elI w' v' l') (s : Sp v wr v' w') : St w w' p g bs (rs.set i (v', l')) := by
  have hil : i < rs.length := (List.getElem?_eq_some_iff.1 hi).1
  have hov := h.own i _ hi
  have get : ∀ (j : Nat) (r : Value × List Int), (rs.set i (v', l'))[j]? = some r → (j = i ∧ r = (v', l')) ∨ (j ≠ i ∧ rs[j]? = some r) := fun j r hr => by
    rw [List.getElem?_set] at hr
    by_cases e : i = j
    · subst e
      simp [hil] at hr
      exact .inl ⟨rfl, hr.symm⟩
    · rw [if_neg e] at hr
      exact .inr ⟨fun x => e x.symm, hr⟩
  refine ⟨h.hp.kept s.1 (own_not hov h.hp.hd (by decide)) (own_not hov h.hp.row (by decide)), fun j r hr => ?_, fun j r hr => ?_, fun j1 j2 r1 r2 hne h1 h2 k hk e => ?_, h.fr.new s.1 (fun k hk e => by have := h.new i _ hi k e; omega), h.gb⟩
  · rcases get j r hr with ⟨rfl, rfl⟩ | ⟨hj, hr'⟩
    · exact o
    · exact (h.own j r hr').kept s.1 (fun k hk => h.ap j i r _ hj hr' hi k hk)
  · rcases get j r hr with ⟨rfl, rfl⟩ | ⟨hj, hr'⟩
    · exact ((h.new _ _ hi).step h.fr s).1
    · exact h.new j r hr'
  · rcases get j1 r1 h1 with ⟨rfl, rfl⟩ | ⟨hj1, hr1⟩
    · rcases get j2 r2 h2 with ⟨rfl, rfl⟩ | ⟨hj2, hr2⟩
      · exact hne rfl
      · have hlt := (h.own j2 r2 hr2).lt e
        exact h.ap j2 j1 r2 _ hj2 hr2 hi k e (s.2 k hlt hk)
    · rcases get j2 r2 h2 with ⟨rfl, rfl⟩ | ⟨hj2, hr2⟩
      · have hlt := (h.own j1 r1 hr1).lt hk
        exact h.ap j1 j2 r1 _ hj1 hr1 hi k hk (s.2 k hlt e)
      · exact h.ap j1 j2 r1 r2 hne hr1 hr2 k hk e

/-- The row's append, as one step: one's own row i, a fresh row of one number behind it. -/
theorem St.at {w wr : World} {p g : Nat} {bs : List Blk} {rs : List (Value × List Int)} (h : St w wr p g bs rs) {i : Nat} {v : Value} {l : List Int} (hi : rs[i]? = some (v, l)) {j : Nat} {x : Int} (hx : l[j]? = some x) :
    ∀ o n c, v = .slice o n c → ∃ b off, o = some ⟨b, off, none⟩ ∧ wr.cell? ⟨b, off + j, none⟩ = some (.int .i64 x) := fun o n c hv => by
  have ho := h.own i _ hi
  simp only at ho
  rw [hv] at ho
  exact (ho.rd elI_ok).at1 (u := .int .i64 x) rfl rfl hx

theorem isObj_any (w : World) (o : Option Addr) (n c : Nat) (L : List Int) (a : Int) (h : OwnG elI w (.slice o n c) L) (hn : L.length = n) (hl : n ≤ 1000) :
    Calls Try.prog 35 #[.slice o n c, .int .i64 a] w fun e w' => e = .returned (.bool (L.any (· == a))) ∧ w' = w := by
  have HO : Hid (OwnG elI w (.slice o n c) L) := h
  clear h
  go_enter Try.func35, Try.ntmps35
  go_wp2_with fail
  go_loop [5] (fun i => ∃ t : Nat, i = .int .i64 (t : Int) ∧ t ≤ n ∧ (L.take t).any (· == a) = false) (fun i => n - (intOf i).toNat)
  case atStart => exact ⟨0, rfl, Nat.zero_le _, rfl⟩
  case round =>
    obtain ⟨t, rfl, htn, hany⟩ := hrel
    by_cases hti : t < n
    · obtain ⟨x, hx⟩ : ∃ x, L[t]? = some x := ⟨_, List.getElem?_eq_getElem (by omega)⟩
      have hnx := any_next L (· == a) t x hx
      obtain ⟨b0, o0, hov, hcx⟩ := (HO.out.rd elI_ok).at1 (u := .int .i64 x) rfl rfl hx
      subst hov
      rw [hany, Bool.false_or] at hnx
      have hti' : (t : Int) < (n : Int) := by omega
      by_cases hxa : x = a
      · have hd : (x == a) = true := by simp [hxa]
        have HR : Hid (L.any (· == a) = true) := by
          rw [Hid, List.any_eq_true]
          exact ⟨x, List.mem_of_getElem? hx, hd⟩
        clear hnx hx hany hxa
        go_wp2_with fail
        go_ret
        exact ⟨by rw [HR.out]; rfl, rfl⟩
      · have hd : (x == a) = false := by simp [hxa]
        rw [hd] at hnx
        have HN : Hid ((L.take (t + 1)).any (· == a) = false) := hnx
        clear hnx hx hany hxa
        go_wp2_with fail
        go_round
        case rel => exact ⟨t + 1, by go_num, by omega, HN.out⟩
        case measure => simp [intOf]; omega
    · obtain rfl : t = n := by omega
      have HR : Hid (L.any (· == a) = false) := by
        rw [List.take_of_length_le (by omega)] at hany
        exact hany
      clear hany
      go_wp2_with fail
      go_ret
      exact ⟨by rw [HR.out]; rfl, rfl⟩

theorem nRefs : Refs 34 #[] (fun _ => []) J0 1000000 where
  en := fun a w => rfl
  call := fun w js B a hj _ _ _ => by
    show Calls Try.prog 34 #[.int .i64 a] w _
    go_enter Try.func34, Try.ntmps34
    go_wp2_with fail
    go_ret
    exact ⟨_, B, rfl, OwnG.nil _ _, NewV.nil _, hj, Fr.refl _ _, fun _ _ h => h⟩
  keep := fun _ _ _ _ _ h _ _ => h
  lt := fun _ _ _ h k hb => absurd hb (h k)
  len := fun a => by simp

theorem nReach (O R : List Int) (a : Int) : Reach (fun _ => []) O R a ↔ a ∈ R ∧ a ∈ O := by
  constructor
  · intro h
    induction h with
    | root h1 h2 => exact ⟨h1, h2⟩
    | step _ h2 _ _ => simp at h2
  · exact fun h => .root h.1 h.2

theorem seen_of {M : List Nat} {O R : List Int} (h : ∀ a ∈ O, M[a.toNat]? = some 2 ↔ Reach (fun _ => []) O R a) : seenL M O = O.filter (fun a => R.any (· == a)) := by
  rw [seenL_eq]
  apply List.filter_congr
  intro a ha
  have := h a ha
  rw [nReach] at this
  rw [Bool.eq_iff_iff]
  unfold seenB
  rw [beq_iff_eq, this, List.any_eq_true]
  constructor
  · exact fun h => ⟨a, h.1, by simp⟩
  · rintro ⟨x, h1, h2⟩
    simp only [beq_iff_eq] at h2
    subst h2
    exact ⟨h1, ha⟩
end Go.Proofs.Ytopcbcdigllenaa

/- Both arenas beside rows of numbers and variables that hold such rows. -/
namespace Go.Proofs.Ytopcbcdigllenaa
open Go.ChangeShapes Go.WideShapes Go.ChangeAt Go.RowKit

/-- The program's arena turns, and blocks of numbers or of variables: the document's arena stays. -/
theorem Hf.both {w wr w' : World} {p g q n : Nat} {bs bs' : List Blk} {T : List Ob} {S : Nat → Prop} (h : Hf w wr p g q n bs T) (hp : HP w' p g bs') (f : Fr S wr w') (hS : ∀ k, S k → k = g ∨ (∃ (cs : Array Value) (t : TypeId), wr.heap[k]? = some (.cells cs t (0, 0)) ∧ (t = 3 ∨ t = 52) ∧ w.heap.size ≤ k)) : Hf w w' p g q n bs' T := by
  obtain ⟨v0, hq0, ho0, hc0⟩ := h.rr.cellv
  have key : ∀ (k : Nat) (cs : Array Value) (t : TypeId), wr.heap[k]? = some (.cells cs t (0, 0)) → t ≠ 3 → t ≠ 52 → k ≠ g → ¬ S k := fun k cs t hk h1 h2 h3 hs => by
    rcases hS k hs with e | ⟨cs', t', hk', ht', -⟩
    · exact h3 e
    · rw [hk] at hk'
      simp only [Option.some.injEq, Obj.cells.injEq] at hk'
      rw [← hk'.2.1] at ht'
      rcases ht' with e | e
      · exact h1 e
      · exact h2 e
  have tg : ∀ (k : Nat) (cs : Array Value) (t : TypeId), wr.heap[k]? = some (.cells cs t (0, 0)) → t ≠ 28 → k ≠ g := fun k cs t hk ht e => by
    have := h.hp.row
    rw [← e, hk] at this
    simp only [Option.some.injEq, Obj.cells.injEq] at this
    exact ht this.2.1
  have hqS : ¬ S q := key q _ _ hq0 (by decide) (by decide) (tg q _ _ hq0 (by decide))
  refine ⟨hp, h.rr.kept f (fun k hk => ?_), ⟨h.rb.low, fun u hu k hk => ?_, h.rb.b⟩, h.gb, h.fr.new f (fun i hi e => ?_)⟩
  · rcases hk with rfl | ⟨u, s, e1, e2⟩ | ⟨o, ho1, hb⟩
    · exact hqS
    · rw [hq0] at e1
      simp only [Option.some.injEq, Obj.cells.injEq, Array.mk.injEq, List.cons.injEq, and_true] at e1
      obtain ⟨-, rfl⟩ := e1
      obtain ⟨cur, hc⟩ := ho0.tag e2
      exact key _ _ _ hc (by decide) (by decide) (tg _ _ _ hc (by decide))
    · obtain ⟨b, hb', hg, hc⟩ := h.rr.wd o ho1
      rw [hb] at hb'
      simp only [Option.some.injEq] at hb'
      subst hb'
      exact key _ _ _ hc (by decide) (by decide) hg
  · have := f.cell hc0 hqS
    rw [hu] at this
    simp only [Option.some.injEq] at this
    subst this
    exact h.rb.v _ hc0 k hk
  · rcases hS i e with e | ⟨-, -, -, -, e⟩
    · have := h.gb
      omega
    · omega

structure Cs (w wr : World) (p g q : Nat) (bs : List Blk) (T : List Ob) (rs : List (Value × List Int)) (cs : List (Nat × Value)) : Prop where
  hf : Hf w wr p g q 600 bs T
  own : ∀ (i : Nat) (r : Value × List Int), rs[i]? = some r → OwnG elI wr r.1 r.2
  new : ∀ (i : Nat) (r : Value × List Int), rs[i]? = some r → NewV w r.1
  ap : ∀ (i j : Nat) (r s : Value × List Int), i ≠ j → rs[i]? = some r → rs[j]? = some s → ∀ k, r.1.ownBlock = some k → s.1.ownBlock ≠ some k
  box : ∀ (i : Nat) (c : Nat × Value), cs[i]? = some c → wr.heap[c.1]? = some (.cells #[c.2] 52 (0, 0)) ∧ w.heap.size ≤ c.1
  dif : ∀ (i j : Nat) (c d : Nat × Value), i ≠ j → cs[i]? = some c → cs[j]? = some d → c.1 ≠ d.1

theorem Cs.keep {w wr w' : World} {p g q : Nat} {bs : List Blk} {T : List Ob} {rs : List (Value × List Int)} {cs : List (Nat × Value)} (h : Cs w wr p g q bs T rs cs) (f : Fr no wr w') : Cs w w' p g q bs T rs cs :=
  ⟨h.hf.keep f, fun i r hr => (h.own i r hr).keep f, h.new, h.ap, fun i c hc => ⟨f.heap (h.box i c hc).1 (fun x => x), (h.box i c hc).2⟩, h.dif⟩

theorem set_get {α : Type} {rs : List α} {i : Nat} (hil : i < rs.length) {v : α} {j : Nat} {r : α} (hr : (rs.set i v)[j]? = some r) : (j = i ∧ r = v) ∨ (j ≠ i ∧ rs[j]? = some r) := by
  rw [List.getElem?_set] at hr
  by_cases e : i = j
  · subst e
    simp [hil] at hr
    exact .inl ⟨rfl, hr.symm⟩
  · rw [if_neg e] at hr
    exact .inr ⟨fun x => e x.symm, hr⟩

theorem add_get {α : Type} {rs : List α} {v : α} {j : Nat} {r : α} (hr : (rs ++ [v])[j]? = some r) : (j = rs.length ∧ r = v) ∨ (j < rs.length ∧ rs[j]? = some r) := by
  by_cases hj : j < rs.length
  · rw [List.getElem?_append_left hj] at hr
    exact .inr ⟨hj, hr⟩
  · rw [List.getElem?_append_right (by omega)] at hr
    by_cases e : j = rs.length
    · subst e
      simp at hr
      exact .inl ⟨rfl, hr.symm⟩
    · rw [List.getElem?_eq_none (by simp; omega)] at hr
      simp at hr

theorem Cs.push {w wr w' : World} {p g q : Nat} {bs : List Blk} {T : List Ob} {rs : List (Value × List Int)} {cs : List (Nat × Value)} (h : Cs w wr p g q bs T rs cs) {i : Nat} {v v' : Value} {l l' : List Int} (hi : rs[i]? = some (v, l)) (o : OwnG elI w' v' l') (s : Sp v wr v' w') : Cs w w' p g q bs T (rs.set i (v', l')) cs := by
  have hil : i < rs.length := (List.getElem?_eq_some_iff.1 hi).1
  have hov := h.own i _ hi
  refine ⟨h.hf.row hov (by decide) (by decide) (by decide) (by decide) (h.new i _ hi) s.1, fun j r hr => ?_, fun j r hr => ?_, fun j1 j2 r1 r2 hne h1 h2 k hk e => ?_, fun j c hc => ⟨s.1.heap (h.box j c hc).1 (own_not hov (h.box j c hc).1 (by decide)), (h.box j c hc).2⟩, h.dif⟩
  · rcases set_get hil hr with ⟨rfl, rfl⟩ | ⟨hj, hr'⟩
    · exact o
    · exact (h.own j r hr').kept s.1 (fun k hk => h.ap j i r _ hj hr' hi k hk)
  · rcases set_get hil hr with ⟨rfl, rfl⟩ | ⟨hj, hr'⟩
    · exact ((h.new _ _ hi).step h.hf.fr s).1
    · exact h.new j r hr'
  · rcases set_get hil h1 with ⟨rfl, rfl⟩ | ⟨hj1, hr1⟩
    · rcases set_get hil h2 with ⟨rfl, rfl⟩ | ⟨hj2, hr2⟩
      · exact hne rfl
      · have hlt := (h.own j2 r2 hr2).lt e
        exact h.ap j2 j1 r2 _ hj2 hr2 hi k e (s.2 k hlt hk)
    · rcases set_get hil h2 with ⟨rfl, rfl⟩ | ⟨hj2, hr2⟩
      · have hlt := (h.own j1 r1 hr1).lt hk
        exact h.ap j1 j2 r1 _ hj1 hr1 hi k hk (s.2 k hlt e)
      · exact h.ap j1 j2 r1 r2 hne hr1 hr2 k hk e

theorem Cs.store {w wr : World} {p g q : Nat} {bs : List Blk} {T : List Ob} {rs : List (Value × List Int)} {cs : List (Nat × Value)} (h : Cs w wr p g q bs T rs cs) {i c : Nat} {v : Value} (hi : cs[i]? = some (c, v)) (v' : Value) : Cs w (wr.setCell ⟨c, 0, none⟩ v') p g q bs T rs (cs.set i (c, v')) := by
  have hil : i < cs.length := (List.getElem?_eq_some_iff.1 hi).1
  have hb := h.box i _ hi
  simp only at hb
  have f : Fr (fun k => k = c) wr (wr.setCell ⟨c, 0, none⟩ v') := Fr.one ⟨c, 0, none⟩ _
  have np : ¬ p = c := fun e => by
    have := h.hf.hp.hd
    rw [e, hb.1] at this
    simp at this
  have ng : ¬ g = c := fun e => by
    have := h.hf.hp.row
    rw [e, hb.1] at this
    simp at this
  refine ⟨h.hf.both (h.hf.hp.kept f np ng) f (fun k e => .inr ⟨#[v], 52, by rw [e]; exact hb.1, .inr rfl, by rw [e]; exact hb.2⟩), fun j r hr => (h.own j r hr).kept f (fun k hk e => own_not (h.own j r hr) hb.1 (by decide) (by rw [hk, e])), h.new, h.ap, fun j d hd => ?_, fun j1 j2 d1 d2 hne h1 h2 => ?_⟩
  · rcases set_get hil hd with ⟨rfl, rfl⟩ | ⟨hj, hd'⟩
    · refine ⟨?_, hb.2⟩
      have := setCell_heap (i := 0) hb.1 v'
      simpa using this
    · exact ⟨f.heap (h.box j d hd').1 (h.dif j i d _ hj hd' hi), (h.box j d hd').2⟩
  · rcases set_get hil h1 with ⟨rfl, rfl⟩ | ⟨hj1, hd1⟩
    · rcases set_get hil h2 with ⟨rfl, rfl⟩ | ⟨hj2, hd2⟩
      · exact absurd rfl hne
      · exact h.dif j1 j2 (c, v) d2 hne hi hd2
    · rcases set_get hil h2 with ⟨rfl, rfl⟩ | ⟨hj2, hd2⟩
      · exact h.dif j1 j2 d1 (c, v) hne hd1 hi
      · exact h.dif j1 j2 d1 d2 hne hd1 hd2

theorem Cs.addrow {w wr w' : World} {p g q : Nat} {bs : List Blk} {T : List Ob} {rs : List (Value × List Int)} {cs : List (Nat × Value)} (h : Cs w wr p g q bs T rs cs) (f : Fr no wr w') {v : Value} {l : List Int} (o : OwnG elI w' v l) (n : NewV wr v) : Cs w w' p g q bs T (rs ++ [(v, l)]) cs := by
  have h' := h.keep f
  have hsz := h.hf.fr.size
  refine ⟨h'.hf, fun j r hr => ?_, fun j r hr => ?_, fun j1 j2 r1 r2 hne h1 h2 k hk e => ?_, h'.box, h'.dif⟩
  · rcases add_get hr with ⟨-, rfl⟩ | ⟨-, hr'⟩
    · exact o
    · exact h'.own j r hr'
  · rcases add_get hr with ⟨-, rfl⟩ | ⟨-, hr'⟩
    · exact fun k hk => by have := n k hk; omega
    · exact h.new j r hr'
  · rcases add_get h1 with ⟨e1, rfl⟩ | ⟨_, hr1⟩
    · rcases add_get h2 with ⟨e2, rfl⟩ | ⟨_, hr2⟩
      · omega
      · have h3 := (h.own j2 r2 hr2).lt e
        have h4 := n k hk
        omega
    · rcases add_get h2 with ⟨e2, rfl⟩ | ⟨_, hr2⟩
      · have h3 := (h.own j1 r1 hr1).lt hk
        have h4 := n k e
        omega
      · exact h.ap j1 j2 r1 r2 hne hr1 hr2 k hk e

theorem Cs.addbox {w wr : World} {p g q : Nat} {bs : List Blk} {T : List Ob} {rs : List (Value × List Int)} {cs : List (Nat × Value)} (h : Cs w wr p g q bs T rs cs) (v : Value) : Cs w (wr.alloc (.cells #[v] 52)) p g q bs T rs (cs ++ [(wr.heap.size, v)]) := by
  have h' := h.keep ((Fr.refl no wr).alloc #[v] 52)
  have hsz := h.hf.fr.size
  refine ⟨h'.hf, h'.own, h'.new, h'.ap, fun j d hd => ?_, fun j1 j2 d1 d2 hne h1 h2 => ?_⟩
  · rcases add_get hd with ⟨-, rfl⟩ | ⟨-, hd'⟩
    · exact ⟨heap_alloc_new wr _, hsz⟩
    · exact h'.box j d hd'
  · rcases add_get h1 with ⟨e1, rfl⟩ | ⟨_, hr1⟩
    · rcases add_get h2 with ⟨e2, rfl⟩ | ⟨_, hr2⟩
      · omega
      · have := lt_of_heap (h.box j2 d2 hr2).1
        simp only
        omega
    · rcases add_get h2 with ⟨e2, rfl⟩ | ⟨_, hr2⟩
      · have := lt_of_heap (h.box j1 d1 hr1).1
        simp only
        omega
      · exact h.dif j1 j2 d1 d2 hne hr1 hr2

theorem Cs.cell {w wr : World} {p g q : Nat} {bs : List Blk} {T : List Ob} {rs : List (Value × List Int)} {cs : List (Nat × Value)} (h : Cs w wr p g q bs T rs cs) {i c : Nat} {v : Value} (hi : cs[i]? = some (c, v)) : wr.cell? ⟨c, 0, none⟩ = some v ∧ wr.frozen? ⟨c, 0, none⟩ = false := by
  have := (h.box i _ hi).1
  simp only at this
  exact ⟨by simp [World.cell?, this], by simp [World.frozen?, this]⟩

theorem Cs.at {w wr : World} {p g q : Nat} {bs : List Blk} {T : List Ob} {rs : List (Value × List Int)} {cs : List (Nat × Value)} (h : Cs w wr p g q bs T rs cs) {i : Nat} {v : Value} {l : List Int} (hi : rs[i]? = some (v, l)) {j : Nat} {x : Int} (hx : l[j]? = some x) :
    ∀ o n c, v = .slice o n c → ∃ b off, o = some ⟨b, off, none⟩ ∧ wr.cell? ⟨b, off + j, none⟩ = some (.int .i64 x) := fun o n c hv => by
  have ho := h.own i _ hi
  simp only at ho
  rw [hv] at ho
  exact (ho.rd elI_ok).at1 (u := .int .i64 x) rfl rfl hx
end Go.Proofs.Ytopcbcdigllenaa

/- A law on regions that draw their order: what is read may be taken first, if nothing that is written comes up ahead of one operation that waits for the readings. -/
namespace Go.Proofs.Ytopcbcdigllenaa
section
variable {ops : Array Oper} {Q : Exit → Act → World → Prop} {S : World → Prop} {g : Nat}

/-- Whichever order is drawn; S holds behind each operation, as long as number g hasn't come up. -/
def wpLate (ops : Array Oper) (Q : Exit → Act → World → Prop) (S : World → Prop) (g : Nat) : Nat → Array Bool → Act → World → Prop
  | 0, L, a, w => Region.ready .any ops L = [] ∧ Q .normal a w
  | n + 1, L, a, w => (Region.ready .any ops L = [] → Q .normal a w) ∧
      ∀ j, j ∈ Region.ready .any ops L → wpOp Try.prog ops Q j (fun a' w' => ((L.setIfInBounds j true).getD g true = false → S w') ∧ wpLate ops Q S g n (L.setIfInBounds j true) a' w') a w

theorem wpLate.any : ∀ {n : Nat} {L : Array Bool} {a : Act} {w : World}, wpLate ops Q S g n L a w → wpAny Try.prog .any ops Q n L a w
  | 0, _, _, _, h => h
  | _ + 1, _, _, _, h => ⟨h.1, fun j hj => wpOp_mono (fun _ _ k => k.2.any) (h.2 j hj)⟩

/-- What a region asks of the tape. -/
theorem late_begin {id : Nat} {a : Act} {w : World} (hm : Try.prog.follows .mixedOrders = true) (h : wpLate ops Q S g ops.size (Array.replicate ops.size false) a w.drew) : (Code.region id ops true).wp Try.prog Q a w :=
  wp_region_any hm h.any

/-- g waits for i. -/
def Waits (ops : Array Oper) (g i : Nat) : Prop := ∃ og, ops[g]? = some og ∧ ∃ e, e ∈ og.after ∧ Region.binds .any e = true ∧ e.on = i

theorem not_ready {L : Array Bool} {i : Nat} (hw : Waits ops g i) (hi : L.getD i true = false) : g ∉ Region.ready .any ops L := by
  intro hg
  obtain ⟨_, o, ho, hall⟩ := mem_ready.1 hg
  obtain ⟨og, hog, e, he, hb, hon⟩ := hw
  rw [ho] at hog
  simp only [Option.some.injEq] at hog
  subst hog
  have h1 := hall e he hb
  rw [hon] at h1
  by_cases hlt : i < L.size
  · simp [Array.getD, hlt] at hi h1
    rw [hi] at h1
    cases h1
  · simp [Array.getD, hlt] at h1

theorem late_first {i : Nat} {oi : Oper} {v : Value} (hi : ops[i]? = some oi) (hs : Region.noSelect ops = true) (hQ : ∀ c a w, Q (.panic c) (a.put oi.dst v) w → Q (.panic c) a w) (hw : Waits ops g i) (hgi : i ≠ g) :
    ∀ (n : Nat) (L : Array Bool) (a : Act) (w : World), (∀ j oj, ops[j]? = some oj → j ≠ i → L.getD j true = false → (∀ e ∈ oj.after, Region.binds .any e = true → e.on ≠ i) → oi.apart ops oj = true) →
      i ∈ Region.ready .any ops L → L.getD g true = false → YieldsIf Try.prog ops S oi v a → S w → wpLate ops Q S g n (L.setIfInBounds i true) (a.put oi.dst v) w → wpLate ops Q S g (n + 1) L a w := by
  have ns := fun k o cs b (ho : ops[k]? = some o) => Region.noSelect_spec hs k o cs b ho
  intro n
  induction n with
  | zero =>
    intro L a w _ hr _ hy hS H
    constructor
    · intro e
      rw [e] at hr
      exact absurd hr (by simp)
    · intro j hj
      by_cases hji : j = i
      · rw [hji]; exact hy.wpOp hi hS ⟨fun _ => hS, hji ▸ H⟩
      · exact absurd (ready_mono hj hji) (by rw [H.1]; simp)
  | succ n ih =>
    intro L a w hf hr hg hy hS H
    constructor
    · intro e
      rw [e] at hr
      exact absurd hr (by simp)
    · intro j hj
      by_cases hji : j = i
      · rw [hji]; exact hy.wpOp hi hS ⟨fun _ => hS, hji ▸ H⟩
      · have hiu := (mem_ready.1 hr).1
        have hjg : j ≠ g := fun e => not_ready hw hiu (e ▸ hj)
        obtain ⟨hju, oj, hoj, hall⟩ := mem_ready.1 hj
        have hno : ∀ e ∈ oj.after, Region.binds .any e = true → e.on ≠ i := fun e he hb hon =>
          not_ready (g := j) ⟨oj, hoj, e, he, hb, hon⟩ hiu hj
        have step := wpOp_putIf hoj (hf j oj hoj hji hju hno) (fun cs b => ns i oi cs b hi) (fun cs b => ns j oj cs b hoj) hQ hy (H.2 j (ready_mono hj hji))
        refine wpOp_mono (fun a' w' k => ?_) step
        have hgL : (L.setIfInBounds j true).getD g true = false := by rw [getD_set_ne true hjg]; exact hg
        have hS' : S w' := k.2.1 (by rw [getD_set_ne true hjg, getD_set_ne true hgi]; exact hg)
        refine ⟨fun _ => hS', ih _ a' w' (fun m om hm hmi hmu hmo => hf m om hm hmi ?_ hmo) (ready_mono hr (Ne.symm hji)) hgL k.1 hS' ?_⟩
        · by_cases hjm : j = m
          · exact hjm ▸ hju
          · rwa [getD_set_ne true hjm] at hmu
        · rw [Array.setIfInBounds_comm _ _ hji]
          exact k.2.2

def waitsB (ops : Array Oper) (g i : Nat) : Bool := match ops[g]? with | some o => o.after.any (fun e => Region.binds .any e && e.on == i) | none => false

theorem waits_of {i : Nat} (h : waitsB ops g i = true) : Waits ops g i := by
  unfold waitsB at h
  cases ho : ops[g]? with
  | none => rw [ho] at h; simp at h
  | some o =>
    rw [ho] at h
    obtain ⟨k, hk, e⟩ := Array.any_eq_true.1 h
    simp only [Bool.and_eq_true, beq_iff_eq] at e
    exact ⟨o, ho, _, Array.getElem_mem hk, e.1, e.2⟩

/-- An operation that yields its value in whatever world may be taken first. -/
theorem late_pure_first {i : Nat} {oi : Oper} {v : Value} (hi : ops[i]? = some oi) (hs : Region.noSelect ops = true) (hQ : ∀ c a w, Q (.panic c) (a.put oi.dst v) w → Q (.panic c) a w) (hgi : i ≠ g) :
    ∀ (n : Nat) (L : Array Bool) (a : Act) (w : World), (∀ j oj, ops[j]? = some oj → j ≠ i → L.getD j true = false → (∀ e ∈ oj.after, Region.binds .any e = true → e.on ≠ i) → oi.apart ops oj = true) →
      i ∈ Region.ready .any ops L → YieldsIf Try.prog ops (fun _ => True) oi v a → (L.getD g true = false → S w) → wpLate ops Q S g n (L.setIfInBounds i true) (a.put oi.dst v) w → wpLate ops Q S g (n + 1) L a w := by
  have ns := fun k o cs b (ho : ops[k]? = some o) => Region.noSelect_spec hs k o cs b ho
  intro n
  induction n with
  | zero =>
    intro L a w _ hr hy hS H
    refine ⟨fun e => absurd hr (by rw [e]; simp), fun j hj => ?_⟩
    by_cases hji : j = i
    · rw [hji]; exact hy.wpOp hi trivial ⟨fun h => hS (by rwa [getD_set_ne true hgi] at h), hji ▸ H⟩
    · exact absurd (ready_mono hj hji) (by rw [H.1]; simp)
  | succ n ih =>
    intro L a w hf hr hy hS H
    refine ⟨fun e => absurd hr (by rw [e]; simp), fun j hj => ?_⟩
    by_cases hji : j = i
    · rw [hji]; exact hy.wpOp hi trivial ⟨fun h => hS (by rwa [getD_set_ne true hgi] at h), hji ▸ H⟩
    · have hiu := (mem_ready.1 hr).1
      obtain ⟨hju, oj, hoj, hall⟩ := mem_ready.1 hj
      have hno : ∀ e ∈ oj.after, Region.binds .any e = true → e.on ≠ i := fun e he hb hon => not_ready (g := j) ⟨oj, hoj, e, he, hb, hon⟩ hiu hj
      have step := wpOp_putIf hoj (hf j oj hoj hji hju hno) (fun cs b => ns i oi cs b hi) (fun cs b => ns j oj cs b hoj) hQ hy (H.2 j (ready_mono hj hji))
      refine wpOp_mono (fun a' w' k => ?_) step
      have hS' : (L.setIfInBounds j true).getD g true = false → S w' := fun h => k.2.1 (by rw [Array.setIfInBounds_comm _ _ (Ne.symm hji), getD_set_ne true hgi]; exact h)
      refine ⟨hS', ih _ a' w' (fun m om hm hmi hmu hmo => hf m om hm hmi ?_ hmo) (ready_mono hr (Ne.symm hji)) k.1 hS' ?_⟩
      · by_cases hjm : j = m
        · exact hjm ▸ hju
        · rwa [getD_set_ne true hjm] at hmu
      · rw [Array.setIfInBounds_comm _ _ hji]
        exact k.2.2

theorem late_pure (i : Nat) (v : Value) {oi : Oper} {n : Nat} {L : Array Bool} {a : Act} {w : World} (hi : ops[i]? = some oi) (hs : Region.noSelect ops = true) (hf : Region.free .any ops L i = true) (hr : (Region.ready .any ops L).contains i = true)
    (hQ : ∀ c a w, Q (.panic c) (a.put oi.dst v) w → Q (.panic c) a w) (hgi : i ≠ g) (hy : YieldsIf Try.prog ops (fun _ => True) oi v a) (hS : L.getD g true = false → S w)
    (h : wpLate ops Q S g n (L.setIfInBounds i true) (a.put oi.dst v) w) : wpLate ops Q S g (n + 1) L a w :=
  late_pure_first hi hs hQ hgi n L a w (Region.free_spec hi hf) (by simpa using hr) hy hS h

/-- Number i first. -/
theorem late_take (i : Nat) (v : Value) {oi : Oper} {n : Nat} {L : Array Bool} {a : Act} {w : World} (hi : ops[i]? = some oi) (hs : Region.noSelect ops = true) (hf : Region.free .any ops L i = true) (hr : (Region.ready .any ops L).contains i = true)
    (hQ : ∀ c a w, Q (.panic c) (a.put oi.dst v) w → Q (.panic c) a w) (hw : Waits ops g i) (hgi : i ≠ g) (hg : L.getD g true = false) (hy : YieldsIf Try.prog ops S oi v a) (hS : S w)
    (h : wpLate ops Q S g n (L.setIfInBounds i true) (a.put oi.dst v) w) : wpLate ops Q S g (n + 1) L a w :=
  late_first hi hs hQ hw hgi n L a w (Region.free_spec hi hf) (by simpa using hr) hg hy hS h

/-- Whichever of these comes up. -/
theorem late_all (rs : List Nat) {n : Nat} {L : Array Bool} {a : Act} {w : World} (hr : Region.ready .any ops L = rs) (hne : rs ≠ [])
    (h : ∀ j, j ∈ rs → wpOp Try.prog ops Q j (fun a' w' => ((L.setIfInBounds j true).getD g true = false → S w') ∧ wpLate ops Q S g n (L.setIfInBounds j true) a' w') a w) : wpLate ops Q S g (n + 1) L a w :=
  ⟨fun e => absurd (hr ▸ e) hne, fun j hj => h j (hr ▸ hj)⟩

theorem late_done {n : Nat} {L : Array Bool} {a : Act} {w : World} (hr : Region.ready .any ops L = []) (h : Q .normal a w) : wpLate ops Q S g n L a w := by
  cases n with
  | zero => exact ⟨hr, h⟩
  | succ n => exact ⟨fun _ => h, fun j hj => by rw [hr] at hj; simp at hj⟩

/-- An operation that nothing guards. -/
theorem late_op {i : Nat} {o : Oper} {a : Act} {w : World} {K : Act → World → Prop} (hi : ops[i]? = some o) (hg : o.guard = none) {v : Value} {w' : World} (h : (execOp a.eval o).run Try.prog w = .ok (.value v) w') (hK : K (a.put o.dst v) w') : wpOp Try.prog ops Q i K a w := by
  have hw : Region.wanted o (yielded ops a.tmps) = true := by unfold Region.wanted; rw [hg]
  unfold wpOp
  simp only [hi]
  rw [if_pos hw]
  refine .inl ?_
  unfold Oper.wp
  rw [h]
  exact hK

theorem late_skip {i : Nat} {o : Oper} {a : Act} {w : World} {K : Act → World → Prop} (hi : ops[i]? = some o) (hg : o.guard = none) {w' : World} (h : (execOp a.eval o).run Try.prog w = .ok .skip w') (hK : K (a.put o.dst undef) w') : wpOp Try.prog ops Q i K a w := by
  have hw : Region.wanted o (yielded ops a.tmps) = true := by unfold Region.wanted; rw [hg]
  unfold wpOp
  simp only [hi]
  rw [if_pos hw]
  refine .inl ?_
  unfold Oper.wp
  rw [h]
  exact hK

/-- A call of a function, by its contract. -/
theorem late_call {i f : Nat} {o : Oper} {a : Act} {w : World} {K : Act → World → Prop} (hi : ops[i]? = some o) (hg : o.guard = none) {vals : Array Value} (hrun : (execOp a.eval o).run Try.prog w = .ok (.enter f vals) w)
    {R : Value → World → Prop} (C : Calls Try.prog f vals w fun e w' => ∃ v, e = .returned v ∧ R v w') (hK : ∀ v w', R v w' → K (a.put o.dst v) w') : wpOp Try.prog ops Q i K a w := by
  have hw : Region.wanted o (yielded ops a.tmps) = true := by unfold Region.wanted; rw [hg]
  unfold wpOp
  simp only [hi]
  rw [if_pos hw]
  refine .inl ?_
  unfold Oper.wp
  rw [hrun, Oper.upon_enter]
  refine C.mono ?_
  rintro e w' ⟨v, rfl, hr⟩
  exact hK v w' hr

theorem yields {o : Oper} {a : Act} {v : Value} (hg : o.guard = none) (h : ∀ w, S w → (execOp a.eval o).run Try.prog w = .ok (.value v) w) : YieldsIf Try.prog ops S o v a :=
  .inl ⟨by unfold Region.wanted; rw [hg], h⟩
end

/-! ### What the operations tell -/
section
variable {o : Oper} {a : Act} {w : World}
theorem ev_move (x : Nat) (v : Value) (ho : o.op = .move (.tmp x)) (hx : a.eval (.tmp x) = v) : (execOp a.eval o).run Try.prog w = .ok (.value v) w := by
  unfold execOp; simp [ho, hx]
theorem ev_assign (x : Nat) (v : Value) (ho : o.op = .assign (.tmp x)) (hx : a.eval (.tmp x) = v) : (execOp a.eval o).run Try.prog w = .ok (.value v) w := by
  unfold execOp; simp [ho, hx]
theorem ev_nil (x : Nat) (q : Addr) (ho : o.op = .nilCheck (.tmp x)) (hx : a.eval (.tmp x) = .pointer (some q)) : (execOp a.eval o).run Try.prog w = .ok (.value (.pointer (some q))) w := by
  unfold execOp; rw [ho]; simp only [hx]; simp [go_sem]
theorem ev_field (t : TypeId) (x i : Nat) (v u : Value) (ho : o.op = .fieldAddr t (.tmp x) i) (hx : a.eval (.tmp x) = v) (hr : (Instr.fieldAt t v i).run Try.prog w = .ok u w) : (execOp a.eval o).run Try.prog w = .ok (.value u) w := by
  unfold execOp; simp [ho, hx, hr]
theorem ev_load (t : TypeId) (x : Nat) (v u : Value) (ho : o.op = .load t (.tmp x)) (hx : a.eval (.tmp x) = v) (hr : (Instr.loadAt t v).run Try.prog w = .ok u w) : (execOp a.eval o).run Try.prog w = .ok (.value u) w := by
  unfold execOp; simp [ho, hx, hr]
theorem ev_index (t : TypeId) (x y : Nat) (v i u : Value) (ho : o.op = .indexAddr t (.tmp x) (.tmp y)) (hx : a.eval (.tmp x) = v) (hy : a.eval (.tmp y) = i) (hr : (Instr.indexAt t v i).run Try.prog w = .ok u w) : (execOp a.eval o).run Try.prog w = .ok (.value u) w := by
  unfold execOp; simp [ho, hx, hy, hr]
theorem ev_append (t : TypeId) (x y : Nat) (v u v' : Value) (w' : World) (ht : o.type = t) (ho : o.op = Op.call { callee := Callee.builtin Builtin.append, args := #[.tmp x, .tmp y], argTypes := #[t, t] }) (hx : a.eval (.tmp x) = v) (hy : a.eval (.tmp y) = u) (hr : (Builtin.append_ #[t, t] t #[v, u]).run Try.prog w = .ok v' w') : (execOp a.eval o).run Try.prog w = .ok (.value v') w' := by
  unfold execOp; simp [ho, ht, hx, hy, resolve, invoke, builtin, hr, Result.andThen]
theorem ev_store (t : TypeId) (x y : Nat) (p v : Value) (w' : World) (ho : o.op = .store t (.tmp x) (.tmp y)) (hx : a.eval (.tmp x) = p) (hy : a.eval (.tmp y) = v) (hr : (Instr.storeAt t p v).run Try.prog w = .ok () w') : (execOp a.eval o).run Try.prog w = .ok .skip w' := by
  unfold execOp; simp [ho, hx, hy, hr, Result.andThen]
end

/-- A struct that fills its block. -/
theorem load_row (w : World) (b : Nat) (ty : TypeId) (cs : Array Value) (d : TypeDesc) (h : w.heap[b]? = some (.cells cs ty (0, 0))) (hu : Try.prog.underlying ty = some d) (hd : d.isRow = true) (hi : (Try.prog.info? ty).map (·.size) = some cs.size) : (Instr.loadAt ty (.pointer (some ⟨b, 0, none⟩))).run Try.prog w = .ok (.agg cs) w := by
  have := run_loadAt_mid (P := Try.prog) w b 0 ty cs.toList d (fun j v hv => by unfold World.cell?; simp only [h]; rw [Nat.zero_add]; simpa using hv) hu hd (by simpa using hi)
  simpa using this

/-- A struct within a block. -/
theorem load_at (w : World) (b o : Nat) (ty t : TypeId) (cs : List Value) (cur : Array Value) (d : TypeDesc) (h : w.heap[b]? = some (.cells cur t (0, 0))) (hc : ∀ j v, cs[j]? = some v → cur[o + j]? = some v) (hu : Try.prog.underlying ty = some d) (hd : d.isRow = true) (hi : (Try.prog.info? ty).map (·.size) = some cs.length) : (Instr.loadAt ty (.pointer (some ⟨b, o, none⟩))).run Try.prog w = .ok (.agg cs.toArray) w :=
  run_loadAt_mid (P := Try.prog) w b o ty cs d (fun j v hv => by unfold World.cell?; simp only [h]; exact hc j v hv) hu hd hi
section
variable {ops : Array Oper} {Q : Exit → Act → World → Prop} {S : World → Prop} {g : Nat}
theorem late_opW {i : Nat} {o : Oper} {a : Act} {w : World} {K : Act → World → Prop} (hi : ops[i]? = some o) (hw : Region.wanted o (yielded ops a.tmps) = true) {v : Value} {w' : World} (h : (execOp a.eval o).run Try.prog w = .ok (.value v) w') (hK : K (a.put o.dst v) w') : wpOp Try.prog ops Q i K a w := by
  unfold wpOp
  simp only [hi]
  rw [if_pos hw]
  refine .inl ?_
  unfold Oper.wp
  rw [h]
  exact hK
theorem late_callW {i f : Nat} {o : Oper} {a : Act} {w : World} {K : Act → World → Prop} (hi : ops[i]? = some o) (hw : Region.wanted o (yielded ops a.tmps) = true) {vals : Array Value} (hrun : (execOp a.eval o).run Try.prog w = .ok (.enter f vals) w)
    {R : Value → World → Prop} (C : Calls Try.prog f vals w fun e w' => ∃ v, e = .returned v ∧ R v w') (hK : ∀ v w', R v w' → K (a.put o.dst v) w') : wpOp Try.prog ops Q i K a w := by
  unfold wpOp
  simp only [hi]
  rw [if_pos hw]
  refine .inl ?_
  unfold Oper.wp
  rw [hrun, Oper.upon_enter]
  refine C.mono ?_
  rintro e w' ⟨v, rfl, hr⟩
  exact hK v w' hr
theorem yieldsW {o : Oper} {a : Act} {v : Value} (hw : Region.wanted o (yielded ops a.tmps) = true) (h : ∀ w, S w → (execOp a.eval o).run Try.prog w = .ok (.value v) w) : YieldsIf Try.prog ops S o v a := .inl ⟨hw, h⟩
/-- An alloc. -/
theorem late_new {i : Nat} {o : Oper} {a : Act} {w W : World} {K : Act → World → Prop} (hi : ops[i]? = some o) (zs : Array Value) (t : TypeId) (g : Fr no W w) (hK : ∀ w2 b, w2.heap[b]? = some (.cells zs t (0, 0)) → Fr no w w2 → Fr no W w2 → W.heap.size ≤ b → K (a.put o.dst (.pointer (some ⟨b, 0, none⟩))) w2)
    (hg : o.guard = none := by kernel_rfl) (h : (execOp a.eval o).run Try.prog w = .ok (.value (.pointer (some ⟨w.heap.size, 0, none⟩))) (w.alloc (.cells zs t)) := by kernel_rfl) : wpOp Try.prog ops Q i K a w :=
  late_op hi hg h (hK _ _ (heap_alloc_new w _) ((Fr.refl no w).alloc _ _) (g.alloc _ _) g.size)
theorem late_at {n : Nat} {L L' : Array Bool} {a a' : Act} {w : World} (hL : L = L') (ha : a = a') (h : wpLate ops Q S g n L' a' w) : wpLate ops Q S g n L a w := by
  rw [hL, ha]
  exact h
theorem with_cont {n m : Nat} {L0 : Array Bool} {a0 : Act} {w0 : World} (α : Type) (L' : Array Bool) (A : α → Act) (F : α → World → Prop) (cont : ∀ x w', F x w' → wpLate ops Q S g m L' (A x) w')
    (k : (∀ x w', F x w' → wpLate ops Q S g m L' (A x) w') → wpLate ops Q S g n L0 a0 w0) : wpLate ops Q S g n L0 a0 w0 := k cont
theorem two_of {j a b : Nat} (h : j ∈ [a, b]) : j = a ∨ j = b := by simpa using h
variable {n : Nat} {L : Array Bool} {a : Act} {w : World}
/-- late_pure, its closed facts by the kernel. -/
theorem lateP (i : Nat) (v : Value) {oi : Oper} (hi : ops[i]? = some oi) (he : ∀ w, (execOp a.eval oi).run Try.prog w = .ok (.value v) w) (hS : L.getD g true = false → S w) (h : wpLate ops Q S g n (L.setIfInBounds i true) (a.put oi.dst v) w)
    (hg : oi.guard = none := by kernel_rfl) (hs : Region.noSelect ops = true := by kernel_rfl) (hf : Region.free .any ops L i = true := by kernel_rfl) (hr : (Region.ready .any ops L).contains i = true := by kernel_rfl) (hgi : i ≠ g := by decide)
    (hQ : ∀ c a w, Q (.panic c) (a.put oi.dst v) w → Q (.panic c) a w := by exact fun _ _ _ h => h) : wpLate ops Q S g (n + 1) L a w :=
  late_pure i v hi hs hf hr hQ hgi (yields hg (fun w _ => he w)) hS h
/-- late_take, likewise. -/
theorem lateT (i : Nat) (v : Value) {oi : Oper} (hi : ops[i]? = some oi) (he : ∀ w, S w → (execOp a.eval oi).run Try.prog w = .ok (.value v) w) (hS : S w) (h : wpLate ops Q S g n (L.setIfInBounds i true) (a.put oi.dst v) w)
    (hg : oi.guard = none := by kernel_rfl) (hs : Region.noSelect ops = true := by kernel_rfl) (hf : Region.free .any ops L i = true := by kernel_rfl) (hr : (Region.ready .any ops L).contains i = true := by kernel_rfl) (hgi : i ≠ g := by decide) (hw : waitsB ops g i = true := by kernel_rfl) (hgu : L.getD g true = false := by kernel_rfl)
    (hQ : ∀ c a w, Q (.panic c) (a.put oi.dst v) w → Q (.panic c) a w := by exact fun _ _ _ h => h) : wpLate ops Q S g (n + 1) L a w :=
  late_take i v hi hs hf hr hQ (waits_of hw) hgi hgu (yields hg he) hS h
/-- The frame written out. -/
theorem lateN (L' : Array Bool) (a' : Act) (h : wpLate ops Q S g n L' a' w) (hL : L = L' := by kernel_rfl) (ha : a = a' := by kernel_rfl) : wpLate ops Q S g n L a w := late_at hL ha h
end
end Go.Proofs.Ytopcbcdigllenaa

