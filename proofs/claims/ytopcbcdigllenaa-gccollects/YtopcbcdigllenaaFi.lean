/- The arenas of the statement on the lowest block, pure; rows of objects. -/
import Derived.Test.YtopcbcdigllenaaTh
namespace Go.Proofs.Ytopcbcdigllenaa

/-- Objects alone. -/
def AllO (os : List Blk) : Prop := ∀ b ∈ os, b.isObj = true

theorem AllO.cons {c : Nat} {ws : List Nat} {os : List Blk} (h : AllO (.obj c ws :: os)) : AllO os := fun b hb => h b (List.mem_cons_of_mem _ hb)

theorem roomAt_objs {os : List Blk} (h : AllO os) (n : Nat) (r : List Blk) : roomAt n (os ++ r) = (roomAt n r).map (· + siz os) := by
  induction os with
  | nil => simp [siz_nil]
  | cons b os ih =>
    cases b with
    | free j => have := h (.free j) (List.mem_cons_self ..); simp [Blk.isObj] at this
    | obj c ws =>
      rw [List.cons_append, roomAt, ih h.cons, Option.map_map, siz_cons]
      simp only [Blk.room, Bool.false_eq_true, if_false]
      congr 1
      funext x
      simp only [Function.comp]
      omega

theorem allocB_objs {os : List Blk} (h : AllO os) (c n : Nat) (r : List Blk) : allocB c n (os ++ r) = os ++ allocB c n r := by
  induction os with
  | nil => rfl
  | cons b os ih =>
    cases b with
    | free j => have := h (.free j) (List.mem_cons_self ..); simp [Blk.isObj] at this
    | obj d ws => rw [List.cons_append, allocB, ih h.cons]; rfl

theorem joinB_objs {os : List Blk} (h : AllO os) (r : List Blk) : joinB (os ++ r) = os ++ joinB r := by
  induction os with
  | nil => rfl
  | cons b os ih =>
    cases b with
    | free j => have := h (.free j) (List.mem_cons_self ..); simp [Blk.isObj] at this
    | obj d ws => rw [List.cons_append, joinB_obj, ih h.cons]; rfl

theorem joinB_id (n : Nat) (bs : List Blk) (hn : bs.length ≤ n) (h : tight false bs = true) : joinB bs = bs := by
  induction n generalizing bs with
  | zero =>
    have : bs = [] := List.eq_nil_of_length_eq_zero (by omega)
    subst this
    exact joinB_nil
  | succ n ih =>
    match bs with
    | [] => exact joinB_nil
    | .obj c ws :: r => rw [joinB_obj, ih r (by simp at hn; omega) h]
    | [.free i] => exact joinB_one _
    | .free i :: .obj c ws :: r => rw [joinB_free_obj, ih (.obj c ws :: r) (by simp at hn ⊢; omega) h]
    | .free i :: .free j :: r => simp [tight] at h

theorem tight_objs {os : List Blk} (h : AllO os) (f : Bool) (hne : os ≠ []) (r : List Blk) : tight f (os ++ r) = tight false r := by
  induction os generalizing f with
  | nil => exact absurd rfl hne
  | cons b os ih =>
    cases b with
    | free j => have := h (.free j) (List.mem_cons_self ..); simp [Blk.isObj] at this
    | obj d ws =>
      rw [List.cons_append, tight]
      by_cases e : os = []
      · rw [e]; rfl
      · exact ih h.cons false e

/-- An object of four words, each nought. -/
def O4 : Blk := .obj 1 [0, 0, 0, 0]
def F4 : Blk := .free [1, 0, 0, 0, 0]
def Os (n : Nat) : List Blk := List.replicate n O4

theorem allO_Os (n : Nat) : AllO (Os n) := fun b hb => by
  rw [List.eq_of_mem_replicate hb]
  rfl

theorem siz_Os (n : Nat) : siz (Os n) = 6 * n := by
  induction n with
  | zero => rfl
  | succ n ih =>
    have : Os (n + 1) = O4 :: Os n := rfl
    rw [this, siz_cons, ih]
    simp only [O4, Blk.len]
    simp
    omega

theorem Os_snoc (n : Nat) : Os n ++ [O4] = Os (n + 1) := by
  unfold Os
  rw [List.replicate_succ']

theorem Os_split {n i : Nat} (h : i < n) : Os n = Os i ++ O4 :: Os (n - i - 1) := by
  obtain ⟨d, rfl⟩ : ∃ d, n = i + (d + 1) := ⟨n - i - 1, by omega⟩
  unfold Os
  rw [← List.replicate_append_replicate, show i + (d + 1) - i - 1 = d by omega]
  rfl

/-- The arena while it is filled: i of k objects. -/
def Fill (i k : Nat) (bs : List Blk) : Prop := (i = k ∧ bs = Os k) ∨ (i < k ∧ ∃ j, bs = Os i ++ [.free j] ∧ j.length + 1 = 6 * (k - i))

theorem fill_new (k : Nat) (h : 0 < k) : Fill 0 k (newB (k * 6)) := by
  refine .inr ⟨h, List.replicate (k * 6 - 1) 0, ?_, by simp; omega⟩
  simp [newB, Os]
  omega

theorem fill_next {i k : Nat} {bs : List Blk} (h : Fill i k bs) (hi : i < k) : roomAt 4 bs = some (6 * i) ∧ Fill (i + 1) k (allocB 1 4 bs) := by
  rcases h with ⟨rfl, _⟩ | ⟨_, j, rfl, hj⟩
  · omega
  · have hr : roomAt 4 [Blk.free j] = some 0 := by
      rw [roomAt, if_pos (by simp [Blk.room]; omega)]
    refine ⟨by rw [roomAt_objs (allO_Os i), hr, siz_Os]; simp, ?_⟩
    rw [allocB_objs (allO_Os i), allocB, if_pos (by omega), List.append_nil]
    unfold carve
    by_cases e : j.length = 4 + 1
    · rw [if_pos e]
      refine .inl ⟨by omega, ?_⟩
      rw [show k = i + 1 by omega, ← Os_snoc]
      rfl
    · rw [if_neg e]
      refine .inr ⟨by omega, j.drop 6, ?_, by simp; omega⟩
      rw [← Os_snoc]
      simp [O4]

/-- Behind one Release. -/
def B1 (k x : Nat) : List Blk := Os x ++ F4 :: Os (k - x - 1)
/-- Behind two. -/
def B2 (k lo hi : Nat) : List Blk := joinB (Os lo ++ F4 :: Os (hi - lo - 1) ++ F4 :: Os (k - hi - 1))

theorem tight_Os (f : Bool) (n : Nat) : tight f (Os n) = true := by
  cases n with
  | zero => rfl
  | succ n =>
    have := tight_objs (allO_Os (n + 1)) f (by simp [Os]) []
    rw [List.append_nil] at this
    rw [this]
    rfl

theorem tight_Os_app (n : Nat) (r : List Blk) : tight false (Os n ++ r) = tight false r := by
  cases n with
  | zero => rfl
  | succ n => exact tight_objs (allO_Os (n + 1)) false (by simp [Os]) r

theorem tight_B1 (k x : Nat) : tight false (B1 k x) = true := by
  unfold B1
  rw [tight_Os_app]
  simp [F4, tight, tight_Os]

theorem rel_one {k x : Nat} (h : x < k) : beg (Os k) (6 * (x : Int) + 1) = true ∧ freeB (Os k) (6 * (x : Int) + 1) = B1 k x := by
  have e : (6 * (x : Int) + 1) = (siz (Os x) : Int) + 1 := by rw [siz_Os]; omega
  have hb : beg (Os k) (6 * (x : Int) + 1) = true := by
    rw [e, Os_split h]
    exact beg_at _ _ _
  refine ⟨hb, ?_⟩
  unfold freeB
  rw [if_pos hb, e, Os_split h]
  have : O4 = .obj 1 [0, 0, 0, 0] := rfl
  rw [this, relB_at]
  exact joinB_id _ _ (Nat.le_refl _) (tight_B1 k x)

theorem rel_two {k x y : Nat} (hx : x < k) (hy : y < k) (hne : x ≠ y) : beg (B1 k x) (6 * (y : Int) + 1) = true ∧ freeB (B1 k x) (6 * (y : Int) + 1) = B2 k (min x y) (max x y) := by
  have hO : O4 = .obj 1 [0, 0, 0, 0] := rfl
  rcases Nat.lt_or_gt_of_ne hne with hl | hl
  · have hs : B1 k x = (Os x ++ F4 :: Os (y - x - 1)) ++ O4 :: Os (k - y - 1) := by
      unfold B1
      rw [Os_split (show y - x - 1 < k - x - 1 by omega), show k - x - 1 - (y - x - 1) - 1 = k - y - 1 by omega]
      simp
    have e : (6 * (y : Int) + 1) = (siz (Os x ++ F4 :: Os (y - x - 1)) : Int) + 1 := by
      rw [siz_append, siz_cons, siz_Os, siz_Os]
      simp only [F4, Blk.len]
      simp
      omega
    have hb : beg (B1 k x) (6 * (y : Int) + 1) = true := by
      rw [e, hs]
      exact beg_at _ _ _
    refine ⟨hb, ?_⟩
    unfold freeB
    rw [if_pos hb, e, hs, hO, relB_at, show min x y = x by omega, show max x y = y by omega]
    rfl
  · have hs : B1 k x = Os y ++ O4 :: (Os (x - y - 1) ++ F4 :: Os (k - x - 1)) := by
      unfold B1
      rw [Os_split (show y < x by omega)]
      simp
    have e : (6 * (y : Int) + 1) = (siz (Os y) : Int) + 1 := by
      rw [siz_Os]
      omega
    have hb : beg (B1 k x) (6 * (y : Int) + 1) = true := by
      rw [e, hs]
      exact beg_at _ _ _
    refine ⟨hb, ?_⟩
    unfold freeB
    rw [if_pos hb, e, hs, hO, relB_at, show min x y = y by omega, show max x y = x by omega]
    unfold B2
    congr 1
    simp [F4]

theorem room_F4 (n : Nat) (r : List Blk) : roomAt n (F4 :: r) = if n ≤ 4 then some 0 else (roomAt n r).map (· + 6) := by
  rw [roomAt]
  by_cases h : n ≤ 4
  · rw [if_pos (by simp [F4, Blk.room]; omega), if_pos h]
  · rw [if_neg (by simp [F4, Blk.room]; omega), if_neg h]
    rfl

theorem room_Os (n m : Nat) : roomAt n (Os m) = none := by
  have := roomAt_objs (allO_Os m) n []
  rw [List.append_nil] at this
  rw [this]
  rfl

theorem room_one (k x n : Nat) : roomAt n (B1 k x) = if n ≤ 4 then some (6 * x) else none := by
  unfold B1
  rw [roomAt_objs (allO_Os x), room_F4, siz_Os, room_Os]
  split <;> simp

theorem room_two (k lo hi n : Nat) (hlt : lo < hi) : roomAt n (B2 k lo hi) = if n + 2 ≤ (if hi = lo + 1 then 12 else 6) then some (6 * lo) else none := by
  unfold B2
  by_cases h : hi = lo + 1
  · subst h
    rw [show lo + 1 - lo - 1 = 0 by omega, if_pos rfl, List.append_assoc, joinB_objs (allO_Os lo)]
    simp only [Os, List.replicate_zero, List.nil_append, List.cons_append]
    have e : joinB (F4 :: F4 :: List.replicate (k - (lo + 1) - 1) O4) = .free [1, 0, 0, 0, 0, 12, 1, 0, 0, 0, 0] :: Os (k - (lo + 1) - 1) := by
      unfold F4
      rw [joinB_two]
      exact joinB_id _ _ (Nat.le_refl _) (by have := tight_Os true (k - (lo + 1) - 1); unfold Os at this; simpa [tight] using this)
    rw [e]
    have := roomAt_objs (allO_Os lo) n (.free [1, 0, 0, 0, 0, 12, 1, 0, 0, 0, 0] :: Os (k - (lo + 1) - 1))
    unfold Os at this ⊢
    rw [this, roomAt]
    have e2 := siz_Os lo
    unfold Os at e2
    have e3 := room_Os n (k - (lo + 1) - 1)
    unfold Os at e3
    rw [e2, e3]
    by_cases hn : n + 2 ≤ 12
    · rw [if_pos hn, if_pos (by simp [Blk.room]; omega)]
      simp
    · rw [if_neg hn, if_neg (by simp [Blk.room]; omega)]
      rfl
  · rw [if_neg h]
    have ht : tight false (Os lo ++ F4 :: Os (hi - lo - 1) ++ F4 :: Os (k - hi - 1)) = true := by
      rw [List.append_assoc, tight_Os_app]
      simp only [F4, List.cons_append, tight]
      rw [tight_objs (allO_Os (hi - lo - 1)) true (by simp [Os]; omega)]
      simp [tight, tight_Os]
    rw [joinB_id _ _ (Nat.le_refl _) ht, List.append_assoc, roomAt_objs (allO_Os lo), List.cons_append, room_F4, roomAt_objs (allO_Os (hi - lo - 1)), room_F4, room_Os, siz_Os, siz_Os]
    by_cases hn : n + 2 ≤ 6
    · rw [if_pos hn, if_pos (by omega)]
      simp
    · rw [if_neg hn, if_neg (by omega), if_neg (by omega)]
      rfl
end Go.Proofs.Ytopcbcdigllenaa
