/- The blocks' arithmetic, pure: what is where behind an Alloc, a Release, a Put. -/
import Derived.Test.YtopcbcdigllenaaAl
namespace Go.Proofs.Ytopcbcdigllenaa

/-- The objects, in their order: address, class, words; so many words lie ahead. -/
def objL : Nat → List Blk → List (Int × Nat × List Nat)
  | _, [] => []
  | k, .free j :: r => objL (k + (Blk.free j).len) r
  | k, .obj c ws :: r => ((k : Int) + 1, c, ws) :: objL (k + (Blk.obj c ws).len) r

theorem objsA_eq (k : Nat) (bs : List Blk) : objsA k bs = (objL k bs).map (·.1) := by
  induction bs generalizing k with
  | nil => rfl
  | cons b r ih => cases b <;> simp [objsA, objL, ih]

theorem objL_append (k : Nat) (a b : List Blk) : objL k (a ++ b) = objL k a ++ objL (k + siz a) b := by
  induction a generalizing k with
  | nil => simp [objL, siz_nil]
  | cons x r ih =>
    have e : k + x.len + siz r = k + siz (x :: r) := by rw [siz_cons]; omega
    cases x <;> simp [objL, ih, ← e]

theorem freesA_append (k : Nat) (a b : List Blk) : freesA k (a ++ b) = freesA k a ++ freesA (k + siz a) b := by
  induction a generalizing k with
  | nil => simp [freesA, siz_nil]
  | cons x r ih =>
    have e : k + x.len + siz r = k + siz (x :: r) := by rw [siz_cons]; omega
    cases x <;> simp [freesA, ih, ← e]

/-- Addresses lie where their blocks do. -/
theorem objL_mem {k : Nat} {bs : List Blk} {x : Int × Nat × List Nat} (h : x ∈ objL k bs) : (k : Int) < x.1 ∧ x.1 + x.2.2.length + 1 ≤ (k : Int) + siz bs := by
  induction bs generalizing k with
  | nil => simp [objL] at h
  | cons b r ih =>
    rw [siz_cons]
    cases b with
    | free j =>
      have := ih (by simpa [objL] using h)
      simp only [Blk.len] at this ⊢
      omega
    | obj c ws =>
      simp only [objL, List.mem_cons] at h
      rcases h with rfl | h
      · simp only [Blk.len]
        omega
      · have := ih h
        simp only [Blk.len] at this ⊢
        omega

/-- Rising. -/
theorem objL_rise (k : Nat) (bs : List Blk) : (objL k bs).Pairwise (fun x y => x.1 < y.1) := by
  induction bs generalizing k with
  | nil => exact List.Pairwise.nil
  | cons b r ih =>
    cases b with
    | free j => exact ih _
    | obj c ws =>
      refine List.Pairwise.cons (fun y hy => ?_) (ih _)
      have := objL_mem hy
      simp only [Blk.len] at this
      simp only []
      omega

theorem objsA_rise (k : Nat) (bs : List Blk) : (objsA k bs).Pairwise (fun x y => x < y) := by
  rw [objsA_eq, List.pairwise_map]
  exact objL_rise k bs

theorem objsA_nodup (k : Nat) (bs : List Blk) : (objsA k bs).Nodup := (objsA_rise k bs).imp (fun h => by omega)

theorem objAt_low (bs : List Blk) (a : Int) (h : a < 1) : objAt bs a = none := by
  have := beg_low bs a h
  rw [beg_obj] at this
  cases e : objAt bs a with
  | none => rfl
  | some x => rw [e] at this; simp at this

theorem objAt_high (bs : List Blk) (a : Int) (h : (siz bs : Int) < a) : objAt bs a = none := by
  induction bs generalizing a with
  | nil => rfl
  | cons b r ih =>
    have := b.len_pos
    rw [siz_cons] at h
    rw [objAt, if_neg (by omega)]
    exact ih _ (by omega)

theorem objAt_append (a b : List Blk) (x : Int) : objAt (a ++ b) x = if x ≤ (siz a : Int) then objAt a x else objAt b (x - (siz a : Int)) := by
  induction a generalizing x with
  | nil =>
    rw [siz_nil]
    by_cases h : x ≤ 0
    · rw [if_pos (by omega)]
      simp only [List.nil_append]
      rw [objAt_low b x (by omega)]
      rfl
    · rw [if_neg (by omega)]
      simp
  | cons y r ih =>
    have := y.len_pos
    rw [List.cons_append, objAt, objAt, ih, siz_cons]
    by_cases e : x = 1
    · rw [if_pos e, if_pos e, if_pos (by omega)]
    · rw [if_neg e, if_neg e]
      by_cases h : x ≤ ((y.len + siz r : Nat) : Int)
      · rw [if_pos h, if_pos (by omega)]
      · rw [if_neg h, if_neg (by omega)]
        congr 1
        omega

theorem objAt_mem {bs : List Blk} {k : Nat} {x : Int} {c : Nat} {ws : List Nat} : objAt bs (x - (k : Int)) = some (c, ws) ↔ (x, c, ws) ∈ objL k bs := by
  induction bs generalizing k with
  | nil => simp [objAt, objL]
  | cons b r ih =>
    have hb := b.len_pos
    have ih' := @ih (k + b.len)
    rw [show x - ((k + b.len : Nat) : Int) = x - (k : Int) - (b.len : Int) by omega] at ih'
    rw [objAt]
    by_cases e : x - (k : Int) = 1
    · rw [if_pos e]
      have hn : ∀ y, y ∈ objL (k + b.len) r → y.1 ≠ x := fun y hy he => by
        have := (objL_mem hy).1
        omega
      cases b with
      | free j =>
        simp only [Blk.told, objL]
        exact ⟨fun h => by simp at h, fun h => absurd rfl (hn _ h)⟩
      | obj d vs =>
        simp only [Blk.told, objL, List.mem_cons]
        refine ⟨fun h => .inl ?_, fun h => ?_⟩
        · simp only [Option.some.injEq, Prod.mk.injEq] at h ⊢
          exact ⟨by omega, h.1.symm, h.2.symm⟩
        · rcases h with h | h
          · simp only [Prod.mk.injEq] at h
            rw [h.2.1, h.2.2]
          · exact absurd rfl (hn _ h)
    · rw [if_neg e, ih']
      cases b with
      | free j => exact Iff.rfl
      | obj d vs =>
        simp only [objL, List.mem_cons]
        refine ⟨.inr, fun h => ?_⟩
        rcases h with h | h
        · simp only [Prod.mk.injEq] at h
          omega
        · exact h

theorem mem_objsA {bs : List Blk} {x : Int} : x ∈ objsA 0 bs ↔ beg bs x = true := by
  rw [objsA_eq, beg_obj, List.mem_map]
  constructor
  · rintro ⟨⟨y, c, ws⟩, h, rfl⟩
    have := objAt_mem.2 h
    simp only [Int.natCast_zero, Int.sub_zero] at this
    simp [this]
  · intro h
    obtain ⟨⟨c, ws⟩, h⟩ := Option.isSome_iff_exists.1 h
    exact ⟨(x, c, ws), objAt_mem.1 (by simpa using h), rfl⟩

/-- No free block touches another one; whether one lies ahead. -/
def tight : Bool → List Blk → Bool
  | _, [] => true
  | f, .free _ :: r => !f && tight true r
  | _, .obj _ _ :: r => tight false r

theorem tight_mono {f : Bool} {bs : List Blk} (h : tight f bs = true) : tight false bs = true := by
  cases bs with
  | nil => rfl
  | cons b r => cases b <;> simp_all [tight]

theorem carve_siz (c n : Nat) (j : List Nat) (h : n + 1 ≤ j.length) : siz (carve c n j) = j.length + 1 := by
  unfold carve
  split
  · simp [siz_cons, siz_nil, Blk.len]; omega
  · simp [siz_cons, siz_nil, Blk.len]; omega

theorem tight_carve (c n : Nat) (j : List Nat) (pre post : List Blk) (f : Bool) (h : tight f (pre ++ .free j :: post) = true) : tight f (pre ++ carve c n j ++ post) = true := by
  induction pre generalizing f with
  | nil =>
    simp only [List.nil_append, tight, Bool.and_eq_true] at h
    unfold carve
    split
    · simpa [tight] using tight_mono h.2
    · simpa [tight] using h.2
  | cons b r ih =>
    cases b with
    | free i =>
      simp only [List.cons_append, tight, Bool.and_eq_true] at h ⊢
      exact ⟨h.1, ih _ h.2⟩
    | obj d ws =>
      simp only [List.cons_append, tight] at h ⊢
      exact ih _ h

theorem objL_carve (k c n : Nat) (j : List Nat) : objL k (carve c n j) = [((k : Int) + 1, c, List.replicate n 0)] := by
  unfold carve
  split <;> simp [objL]

/-- Behind an Alloc that goes well. -/
theorem alloc_some {c n o : Nat} {bs : List Blk} (h : roomAt n bs = some o) :
    siz (allocB c n bs) = siz bs ∧ (tight false bs = true → tight false (allocB c n bs) = true) ∧ objAt bs ((o : Int) + 1) = none ∧
      (∀ x, objAt (allocB c n bs) x = if x = (o : Int) + 1 then some (c, List.replicate n 0) else objAt bs x) ∧
      ∃ A B, objL 0 bs = A ++ B ∧ objL 0 (allocB c n bs) = A ++ ((o : Int) + 1, c, List.replicate n 0) :: B ∧ (∀ x ∈ A, x.1 < (o : Int) + 1) ∧ (∀ x ∈ B, (o : Int) + 1 < x.1) ∧ o + n + 2 ≤ siz bs := by
  obtain ⟨pre, j, post, rfl, rfl, hj, ha⟩ := roomAt_split h
  rw [ha c]
  have hcs := carve_siz c n j hj
  refine ⟨?_, tight_carve c n j pre post false, ?_, fun x => ?_, objL 0 pre, objL (siz pre + (j.length + 1)) post, ?_, ?_, fun x hx => ?_, fun x hx => ?_, ?_⟩
  · rw [siz_append, siz_append, siz_append, siz_cons, hcs]
    simp only [Blk.len]
    omega
  · rw [objAt_append, if_neg (by omega), objAt, if_pos (by omega)]
    rfl
  · rw [List.append_assoc, objAt_append pre (carve c n j ++ post), objAt_append pre (.free j :: post)]
    by_cases h1 : x ≤ (siz pre : Int)
    · rw [if_pos h1, if_pos h1, if_neg (by omega)]
    · rw [if_neg h1, if_neg h1]
      by_cases h2 : x = (siz pre : Int) + 1
      · rw [if_pos h2]
        unfold carve
        rw [List.cons_append, objAt, if_pos (by omega)]
        rfl
      · have e1 : objAt (.free j :: post) (x - (siz pre : Int)) = objAt post (x - (siz pre : Int) - ((j.length + 1 : Nat) : Int)) := by
          rw [objAt, if_neg (by omega)]
          rfl
        rw [if_neg h2, objAt_append, hcs, e1]
        by_cases h3 : x - (siz pre : Int) ≤ ((j.length + 1 : Nat) : Int)
        · rw [if_pos h3, objAt_low post _ (by omega)]
          unfold carve
          rw [objAt, if_neg (by omega)]
          split
          · rfl
          · rw [objAt]
            split
            · rfl
            · rfl
        · rw [if_neg h3]
  · rw [objL_append, objL]
    simp [Blk.len]
  · rw [List.append_assoc, objL_append, objL_append, objL_carve, hcs]
    simp
  · have := (objL_mem hx).2
    omega
  · have := (objL_mem hx).1
    omega
  · rw [siz_append, siz_cons]
    simp only [Blk.len]
    omega

theorem joinB_all (n : Nat) (bs : List Blk) (hn : bs.length ≤ n) : siz (joinB bs) = siz bs ∧ tight false (joinB bs) = true ∧ (∀ x, objAt (joinB bs) x = objAt bs x) ∧ ∀ k, objL k (joinB bs) = objL k bs := by
  induction n generalizing bs with
  | zero =>
    have : bs = [] := List.eq_nil_of_length_eq_zero (by omega)
    subst this
    rw [joinB_nil]
    exact ⟨rfl, rfl, fun _ => rfl, fun _ => rfl⟩
  | succ n ih =>
    match bs with
    | [] => rw [joinB_nil]; exact ⟨rfl, rfl, fun _ => rfl, fun _ => rfl⟩
    | .obj c ws :: r =>
      obtain ⟨h1, h2, h3, h4⟩ := ih r (by simp at hn; omega)
      rw [joinB_obj]
      exact ⟨by rw [siz_cons, siz_cons, h1], h2, fun x => by rw [objAt, objAt, h3], fun k => by rw [objL, objL, h4]⟩
    | [.free i] => rw [joinB_one]; exact ⟨rfl, rfl, fun _ => rfl, fun _ => rfl⟩
    | .free i :: .obj c ws :: r =>
      obtain ⟨h1, h2, h3, h4⟩ := ih (.obj c ws :: r) (by simp at hn ⊢; omega)
      rw [joinB_free_obj]
      refine ⟨by rw [siz_cons, siz_cons, h1], ?_, fun x => by rw [objAt, objAt, h3], fun k => by rw [objL, objL, h4]⟩
      rw [joinB_obj] at h2 ⊢
      exact h2
    | .free i :: .free j :: r =>
      obtain ⟨h1, h2, h3, h4⟩ := ih (.free (i ++ (2 * (j.length + 1)) :: j) :: r) (by simp at hn ⊢; omega)
      have hl : (Blk.free (i ++ (2 * (j.length + 1)) :: j)).len = (Blk.free i).len + (Blk.free j).len := by simp [Blk.len]; omega
      rw [joinB_two]
      refine ⟨by rw [h1, siz_cons, siz_cons, siz_cons, hl]; omega, h2, fun x => ?_, fun k => ?_⟩
      · rw [h3, objAt, objAt, objAt, hl]
        have hp := (Blk.free i).len_pos
        have hp2 := (Blk.free j).len_pos
        by_cases e : x = 1
        · rw [if_pos e, if_pos e]
          rfl
        · rw [if_neg e, if_neg e]
          by_cases e2 : x - ((Blk.free i).len : Int) = 1
          · rw [if_pos e2, objAt_low r _ (by omega)]
            rfl
          · rw [if_neg e2]
            congr 1
            omega
      · rw [h4, objL, objL, objL, hl, Nat.add_assoc]

theorem relB_all (bs : List Blk) (a : Int) : siz (relB bs a) = siz bs ∧ (∀ x, objAt (relB bs a) x = if x = a then none else objAt bs x) := by
  induction bs generalizing a with
  | nil => exact ⟨rfl, fun x => by simp [relB, objAt]⟩
  | cons b r ih =>
    have hb := b.len_pos
    have hl : b.rel.len = b.len := by cases b <;> simp [Blk.rel, Blk.len]
    rw [relB]
    by_cases e : a = 1
    · subst e
      rw [if_pos rfl]
      refine ⟨by rw [siz_cons, siz_cons, hl], fun x => ?_⟩
      rw [objAt, objAt, hl]
      by_cases e2 : x = 1
      · rw [if_pos e2, if_pos e2]
        cases b <;> rfl
      · rw [if_neg e2, if_neg e2, if_neg e2]
    · rw [if_neg e]
      obtain ⟨h1, h2⟩ := ih (a - (b.len : Int))
      refine ⟨by rw [siz_cons, siz_cons, h1], fun x => ?_⟩
      rw [objAt, objAt, h2]
      by_cases e2 : x = 1
      · rw [if_pos e2, if_pos e2, if_neg (by omega)]
      · rw [if_neg e2, if_neg e2]
        by_cases e3 : x = a
        · rw [if_pos e3, if_pos (by omega)]
        · rw [if_neg e3, if_neg (by omega)]

/-- Behind a Release that goes well. -/
theorem free_some {bs : List Blk} {a : Int} (h : beg bs a = true) :
    siz (freeB bs a) = siz bs ∧ tight false (freeB bs a) = true ∧ (∀ x, objAt (freeB bs a) x = if x = a then none else objAt bs x) ∧
      ∃ A B c ws, objL 0 bs = A ++ (a, c, ws) :: B ∧ objL 0 (freeB bs a) = A ++ B := by
  unfold freeB
  rw [if_pos h]
  obtain ⟨j1, j2, j3, j4⟩ := joinB_all _ (relB bs a) (Nat.le_refl _)
  obtain ⟨r1, r2⟩ := relB_all bs a
  refine ⟨by rw [j1, r1], j2, fun x => by rw [j3, r2], ?_⟩
  obtain ⟨pre, c, ws, post, rfl, rfl⟩ := beg_split h
  refine ⟨objL 0 pre, objL (siz pre + (ws.length + 2)) post, c, ws, ?_, ?_⟩
  · rw [objL_append, objL]
    simp [Blk.len]
  · rw [j4, relB_at, objL_append, objL]
    simp [Blk.len]

theorem free_none {bs : List Blk} {a : Int} (h : beg bs a = false) : freeB bs a = bs := by
  unfold freeB
  rw [h]
  rfl

theorem putB_all (bs : List Blk) (a i : Int) (v : Nat) : siz (putB bs a i v) = siz bs ∧ (∀ f, tight f (putB bs a i v) = tight f bs) ∧
    ∀ x, objAt (putB bs a i v) x = if x = a then (objAt bs x).map (fun y => (y.1, if 0 ≤ i then y.2.set i.toNat v else y.2)) else objAt bs x := by
  induction bs generalizing a with
  | nil => exact ⟨rfl, fun _ => rfl, fun x => by simp [putB, objAt]⟩
  | cons b r ih =>
    have hb := b.len_pos
    have hl : (b.put i v).len = b.len := by
      cases b with
      | free j => rfl
      | obj c ws => simp only [Blk.put, Blk.len]; split <;> simp
    have ht : ∀ f l, tight f (b.put i v :: l) = tight f (b :: l) := fun f l => by cases b <;> rfl
    rw [putB]
    by_cases e : a = 1
    · subst e
      rw [if_pos rfl]
      refine ⟨by rw [siz_cons, siz_cons, hl], fun f => ht f r, fun x => ?_⟩
      rw [objAt, objAt, hl]
      by_cases e2 : x = 1
      · rw [if_pos e2, if_pos e2, if_pos e2]
        cases b <;> rfl
      · rw [if_neg e2, if_neg e2, if_neg e2]
    · rw [if_neg e]
      obtain ⟨h1, h2, h3⟩ := ih (a - (b.len : Int))
      refine ⟨by rw [siz_cons, siz_cons, h1], fun f => by cases b <;> simp [tight, h2], fun x => ?_⟩
      rw [objAt, objAt, h3]
      by_cases e2 : x = 1
      · rw [if_pos e2, if_pos e2, if_neg (by omega)]
      · rw [if_neg e2, if_neg e2]
        by_cases e3 : x = a
        · rw [if_pos e3, if_pos (by omega)]
        · rw [if_neg e3, if_neg (by omega)]
end Go.Proofs.Ytopcbcdigllenaa
