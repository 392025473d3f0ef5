/- The program's table and the document's are of the same locks: what is told of both. -/
import Derived.Test.YtkkpimpmhnnbjaaDm
import Derived.Test.YtkkpimpmhnnbjaaJt
import Derived.Test.YtkkpimpmhnnbjaaHe
namespace Go.Proofs.Ytkkpimpmhnnbjaa
open Go.ChangeShapes Go.WideShapes Go.ChangeAt Go.RowKit

theorem fdT_cons (k : Int) (x : Lk) (T : List (Int × Lk)) (a : Int) : fdT ((k, x) :: T) a = if k = a then some 0 else (fdT T a).map (· + 1) := by
  unfold fdT
  rw [List.findIdx?_cons]
  by_cases h : k = a <;> simp [h]

theorem dLk_nil (a : Int) : dLk [] a = lk0 := rfl

theorem dLk_cons (k : Int) (x : Lk) (T : List (Int × Lk)) (a : Int) : dLk ((k, x) :: T) a = if k = a then x else dLk T a := by
  unfold dLk
  rw [fdT_cons]
  by_cases h : k = a
  · simp [h]
  · rw [if_neg h, if_neg h]
    cases fdT T a with
    | none => rfl
    | some i => simp

theorem dLk_out {T : List (Int × Lk)} {a : Int} (h : ∀ p ∈ T, p.1 ≠ a) : dLk T a = lk0 := by
  induction T with
  | nil => rfl
  | cons p T ih =>
    obtain ⟨k, x⟩ := p
    rw [dLk_cons, if_neg (h (k, x) List.mem_cons_self)]
    exact ih (fun p hp => h p (List.mem_cons_of_mem _ hp))

def Keys (T : List (Int × Lk)) : Prop := (T.map Prod.fst).Nodup

theorem Keys.tail {p : Int × Lk} {T : List (Int × Lk)} (h : Keys (p :: T)) : Keys T ∧ ∀ r ∈ T, r.1 ≠ p.1 := by
  unfold Keys at h
  rw [List.map_cons, List.nodup_cons] at h
  exact ⟨h.2, fun r hr e => h.1 (List.mem_map.2 ⟨r, hr, e⟩)⟩

theorem Keys.cons {p : Int × Lk} {T : List (Int × Lk)} (h : Keys T) (k : ∀ r ∈ T, r.1 ≠ p.1) : Keys (p :: T) := by
  unfold Keys
  rw [List.map_cons, List.nodup_cons]
  exact ⟨fun hm => by obtain ⟨r, hr, e⟩ := List.mem_map.1 hm; exact k r hr e, h⟩

theorem fdT_none_mem {T : List (Int × Lk)} {a : Int} (h : fdT T a = none) : ∀ p ∈ T, p.1 ≠ a := by
  unfold fdT at h
  rw [List.findIdx?_eq_none_iff] at h
  intro p hp e
  have := h p hp
  simp [e] at this

theorem dLk_at {T : List (Int × Lk)} {a : Int} {i : Nat} (h : fdT T a = some i) : T[i]? = some (a, dLk T a) := by
  obtain ⟨x, hx, -⟩ := fdT_at h
  unfold dLk
  rw [h]
  simp only [hx]

theorem keys_set {T : List (Int × Lk)} {i : Nat} {a : Int} {x : Lk} (h : T[i]? = some (a, x)) (x' : Lk) : (T.set i (a, x')).map Prod.fst = T.map Prod.fst := by
  rw [List.map_set]
  exact set_same _ i a (by rw [List.getElem?_map, h]; rfl)

theorem dLk_set {T : List (Int × Lk)} (hk : Keys T) {i : Nat} {a : Int} {x : Lk} (h : T[i]? = some (a, x)) (x' : Lk) (b : Int) : dLk (T.set i (a, x')) b = if b = a then x' else dLk T b := by
  induction T generalizing i with
  | nil => simp at h
  | cons p T ih =>
    obtain ⟨k, y⟩ := p
    obtain ⟨hk1, hk2⟩ := hk.tail
    cases i with
    | zero =>
      simp at h
      obtain ⟨rfl, rfl⟩ := h
      rw [List.set_cons_zero, dLk_cons, dLk_cons]
      by_cases hb : b = k
      · simp [hb]
      · simp [hb, Ne.symm hb]
    | succ i =>
      have h' : T[i]? = some (a, x) := by simpa using h
      have hka : ¬ k = a := fun e => hk2 (a, x) (List.mem_of_getElem? h') e.symm
      rw [List.set_cons_succ, dLk_cons, dLk_cons, ih hk1 h']
      by_cases hb : b = a
      · subst hb
        simp [hka]
      · rw [if_neg hb, if_neg hb]

theorem dLk_app {T : List (Int × Lk)} {a : Int} (h : ∀ p ∈ T, p.1 ≠ a) (x : Lk) (b : Int) : dLk (T ++ [(a, x)]) b = if b = a then x else dLk T b := by
  induction T with
  | nil =>
    rw [List.nil_append, dLk_cons, dLk_nil]
    by_cases hb : b = a
    · simp [hb]
    · simp [hb, Ne.symm hb]
  | cons p T ih =>
    obtain ⟨k, y⟩ := p
    have hka := h (k, y) List.mem_cons_self
    rw [List.cons_append, dLk_cons, dLk_cons, ih (fun p hp => h p (List.mem_cons_of_mem _ hp))]
    by_cases hb : b = a
    · subst hb
      simp only [] at hka
      simp [hka]
    · rw [if_neg hb, if_neg hb]

theorem dLk_cut {T : List (Int × Lk)} (hk : Keys T) {i : Nat} {a : Int} {x : Lk} (h : T[i]? = some (a, x)) (b : Int) : dLk (T.take i ++ T.drop (i + 1)) b = if b = a then lk0 else dLk T b := by
  induction T generalizing i with
  | nil => simp at h
  | cons p T ih =>
    obtain ⟨k, y⟩ := p
    obtain ⟨hk1, hk2⟩ := hk.tail
    cases i with
    | zero =>
      simp at h
      obtain ⟨rfl, rfl⟩ := h
      rw [List.take_zero, List.nil_append, List.drop_succ_cons, List.drop_zero, dLk_cons]
      by_cases hb : b = k
      · subst hb
        rw [if_pos rfl]
        exact dLk_out hk2
      · rw [if_neg hb, if_neg (Ne.symm hb)]
    | succ i =>
      have h' : T[i]? = some (a, x) := by simpa using h
      have hka : ¬ k = a := fun e => hk2 (a, x) (List.mem_of_getElem? h') e.symm
      rw [List.take_succ_cons, List.cons_append, List.drop_succ_cons, dLk_cons, dLk_cons, ih hk1 h']
      by_cases hb : b = a
      · subst hb
        simp [hka]
      · rw [if_neg hb, if_neg hb]

/-- How often a thread stands in a lock's lists, in all lists. -/
def cnt (t : Int) (x : Lk) : Nat := x.entry.countP (fun z => z.1 == t) + x.wait.countP (fun z => z.1 == t)

def tot (t : Int) : List (Int × Lk) → Nat
  | [] => 0
  | p :: T => cnt t p.2 + tot t T

theorem tot_set {T : List (Int × Lk)} {i : Nat} {a : Int} {x : Lk} (h : T[i]? = some (a, x)) (x' : Lk) (t : Int) : tot t (T.set i (a, x')) + cnt t x = tot t T + cnt t x' := by
  induction T generalizing i with
  | nil => simp at h
  | cons p T ih =>
    cases i with
    | zero =>
      simp at h
      subst h
      simp only [List.set_cons_zero, tot]
      omega
    | succ i =>
      have := ih (i := i) (by simpa using h)
      simp only [List.set_cons_succ, tot]
      omega

theorem tot_app (T U : List (Int × Lk)) (t : Int) : tot t (T ++ U) = tot t T + tot t U := by
  induction T with
  | nil => simp [tot]
  | cons p T ih => simp only [List.cons_append, tot, ih]; omega

theorem tot_cut {T : List (Int × Lk)} {i : Nat} {a : Int} {x : Lk} (h : T[i]? = some (a, x)) (t : Int) : tot t (T.take i ++ T.drop (i + 1)) + cnt t x = tot t T := by
  induction T generalizing i with
  | nil => simp at h
  | cons p T ih =>
    cases i with
    | zero =>
      simp at h
      subst h
      simp [tot]
      omega
    | succ i =>
      have := ih (i := i) (by simpa using h)
      simp only [List.take_succ_cons, List.cons_append, List.drop_succ_cons, tot]
      omega

theorem dIn_cnt (t : Int) (x : Lk) : dIn t x = decide (0 < cnt t x) := by
  unfold dIn cnt
  have e : ∀ l : List (Int × Int), l.any (fun z => z.1 == t) = decide (0 < l.countP (fun z => z.1 == t)) := fun l => by
    rw [Bool.eq_iff_iff, List.any_eq_true, decide_eq_true_iff, List.countP_pos_iff]
  rw [e, e, Bool.eq_iff_iff]
  simp only [Bool.or_eq_true, decide_eq_true_iff]
  omega

theorem dStand_tot (T : List (Int × Lk)) (t : Int) : dStand T t = decide (0 < tot t T) := by
  induction T with
  | nil => rfl
  | cons p T ih =>
    have e : dStand (p :: T) t = (dIn t p.2 || dStand T t) := rfl
    have e2 : tot t (p :: T) = cnt t p.2 + tot t T := rfl
    rw [e, ih, dIn_cnt, e2, Bool.eq_iff_iff, Bool.or_eq_true, decide_eq_true_iff, decide_eq_true_iff, decide_eq_true_iff]
    omega
end Go.Proofs.Ytkkpimpmhnnbjaa
