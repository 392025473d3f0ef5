/- Words that stay, pure. -/
import Derived.Test.YtmoejipmiicgpaaTh
import Derived.Test.YtmoejipmiicgpaaAp
namespace Go.Proofs.Ytmoejipmiicgpaa

/-- The first k of these, then nought. -/
def part (l : List Nat) (k : Nat) : List Nat := l.take k ++ List.replicate (l.length - k) 0

theorem part_length (l : List Nat) (k : Nat) (h : k ≤ l.length) : (part l k).length = l.length := by simp [part]; omega
theorem part_all (l : List Nat) : part l l.length = l := by simp [part]
theorem part_zero (l : List Nat) : part l 0 = List.replicate l.length 0 := by simp [part]

theorem part_next (l : List Nat) (k x : Nat) (h : l[k]? = some x) : (part l k).set k x = part l (k + 1) := by
  have hk : k < l.length := (List.getElem?_eq_some_iff.1 h).1
  unfold part
  rw [List.set_append_right _ _ (by simp; omega), show k - (l.take k).length = 0 by simp; omega]
  obtain ⟨d, hd⟩ : ∃ d, l.length - k = d + 1 := ⟨l.length - k - 1, by omega⟩
  rw [hd, show l.length - (k + 1) = d by omega, List.replicate_succ, List.set_cons_zero, List.take_add_one, h]
  simp

theorem part_get (l : List Nat) (k : Nat) (h : k < l.length) : (part l k).getD k 0 = 0 := by
  unfold part
  rw [List.getD_eq_getElem?_getD, List.getElem?_append_right (by simp; omega)]
  rw [List.getElem?_replicate]
  split <;> rfl

/-- What is told of an object's word. -/
theorem has_obj {bs : List Blk} {a : Int} {c : Nat} {ws : List Nat} (h : objAt bs a = some (c, ws)) (k : Nat) : hasW bs a (k : Int) = decide (k < ws.length) ∧ getW bs a (k : Int) = ((ws.getD k 0 : Nat) : Int) := by
  unfold hasW getW
  rw [h]
  simp only []
  refine ⟨by simp, ?_⟩
  by_cases e : k < ws.length
  · rw [if_pos ⟨by omega, by omega⟩]
    simp
  · rw [if_neg (by omega), List.getD_eq_getElem?_getD, List.getElem?_eq_none (by omega)]
    rfl

theorem put_obj {bs : List Blk} {a : Int} {c : Nat} {ws : List Nat} (h : objAt bs a = some (c, ws)) (k v : Nat) (x : Int) : objAt (putB bs a (k : Int) v) x = if x = a then some (c, ws.set k v) else objAt bs x := by
  rw [(putB_all bs a (k : Int) v).2.2 x]
  by_cases e : x = a
  · rw [if_pos e, if_pos e, e, h]
    simp
  · rw [if_neg e, if_neg e]

/-- The arena: at 1 what is kept; others elsewhere. -/
structure Kept (vs : List Nat) (bs : List Blk) (l : List Int) : Prop where
  one : objAt bs 1 = some (3, vs)
  dup : l.Nodup
  there : ∀ a ∈ l, a ≠ 1 ∧ beg bs a = true

theorem Kept.drop {vs : List Nat} {bs : List Blk} {a : Int} {l : List Int} (h : Kept vs bs (a :: l)) : beg bs a = true ∧ Kept vs (freeB bs a) l := by
  have ha := h.there a (List.mem_cons_self ..)
  obtain ⟨-, -, f3, -⟩ := free_some ha.2
  refine ⟨ha.2, by rw [f3, if_neg (Ne.symm ha.1)]; exact h.one, (List.nodup_cons.1 h.dup).2, fun b hb => ?_⟩
  have hb2 := h.there b (List.mem_cons_of_mem _ hb)
  refine ⟨hb2.1, ?_⟩
  have hne : b ≠ a := fun e => (List.nodup_cons.1 h.dup).1 (by rw [← e]; exact hb)
  rw [beg_obj, f3, if_neg hne, ← beg_obj]
  exact hb2.2

/-- Beside a new object, of which some words are written. -/
structure Newer (vs : List Nat) (o : Int) (ws : List Nat) (bs : List Blk) (l : List Int) : Prop where
  kept : Kept vs bs l
  at_o : objAt bs o = some (4, ws)
  ne : o ≠ 1
  out : o ∉ l

theorem Kept.alloc {vs : List Nat} {bs : List Blk} {l : List Int} (h : Kept vs bs l) {n o : Nat} (hr : roomAt n bs = some o) : Newer vs ((o : Int) + 1) (List.replicate n 0) (allocB 4 n bs) l := by
  obtain ⟨-, -, a3, a4, -⟩ := alloc_some (c := 4) hr
  have hne : ((o : Int) + 1) ≠ 1 := fun e => by
    rw [e, h.one] at a3
    simp at a3
  have hout : ((o : Int) + 1) ∉ l := fun hm => by
    have := (h.there _ hm).2
    rw [beg_obj, a3] at this
    simp at this
  refine ⟨⟨by rw [a4, if_neg (Ne.symm hne)]; exact h.one, h.dup, fun a ha => ⟨(h.there a ha).1, ?_⟩⟩, by rw [a4, if_pos rfl], hne, hout⟩
  have hna : a ≠ (o : Int) + 1 := fun e => hout (by rw [← e]; exact ha)
  rw [beg_obj, a4, if_neg hna, ← beg_obj]
  exact (h.there a ha).2

theorem Newer.put {vs : List Nat} {o : Int} {ws : List Nat} {bs : List Blk} {l : List Int} (h : Newer vs o ws bs l) (k v : Nat) : Newer vs o (ws.set k v) (putB bs o (k : Int) v) l := by
  have hp := put_obj h.at_o k v
  refine ⟨⟨by rw [hp, if_neg (Ne.symm h.ne)]; exact h.kept.one, h.kept.dup, fun a ha => ⟨(h.kept.there a ha).1, ?_⟩⟩, by rw [hp, if_pos rfl], h.ne, h.out⟩
  have hna : a ≠ o := fun e => h.out (by rw [← e]; exact ha)
  rw [beg_obj, hp, if_neg hna, ← beg_obj]
  exact (h.kept.there a ha).2

theorem Newer.done {vs : List Nat} {o : Int} {ws : List Nat} {bs : List Blk} {l : List Int} (h : Newer vs o ws bs l) : Kept vs bs (l ++ [o]) := by
  refine ⟨h.kept.one, ?_, fun a ha => ?_⟩
  · rw [List.nodup_append]
    refine ⟨h.kept.dup, by simp, fun a ha b hb e => ?_⟩
    simp at hb
    exact h.out (by rw [← hb, ← e]; exact ha)
  · rcases List.mem_append.1 ha with ha | ha
    · exact h.kept.there a ha
    · simp at ha
      rw [ha]
      exact ⟨h.ne, by rw [beg_obj, h.at_o]; rfl⟩

theorem beg_le {bs : List Blk} {a : Int} (h : beg bs a = true) : a ≤ (siz bs : Int) := by
  by_cases e : a ≤ (siz bs : Int)
  · exact e
  · have := objAt_high bs a (by omega)
    rw [beg_obj, this] at h
    simp at h

theorem words_new (n : Nat) (h : n ≤ 30) : roomAt n (newB 400) = some 0 ∧ objAt (allocB 3 n (newB 400)) 1 = some (3, List.replicate n 0) := by
  have hr : roomAt n (newB 400) = some 0 := by
    rw [newB_pos 400 (by decide), roomAt, if_pos]
    simp only [Blk.room, List.length_replicate, decide_eq_true_eq]
    omega
  refine ⟨hr, ?_⟩
  obtain ⟨-, -, -, a4, -⟩ := alloc_some (c := 3) hr
  rw [a4]
  rfl
end Go.Proofs.Ytmoejipmiicgpaa
