/- The program's threads in memory; which of a row are picked out. -/
import Derived.Test.YtancclmnliiijaaLift
namespace Go.Proofs.Ytancclmnliiijaa
open Go.ChangeShapes Go.WideShapes Go.ChangeAt Go.RowKit

theorem cg_set {α : Type} {K : El α} (hK : K.Ok) (l : List α) (i j : Nat) (x y : α) (u : Value) (h : l[i]? = some x) (hj : j < K.n) (hy : K.f y = (K.f x).set j u) : (cg K l).set (i * K.n + j) u = cg K (l.set i y) := by
  induction l generalizing i with
  | nil => simp at h
  | cons z l ih =>
    have e : cg K (z :: l) = K.f z ++ cg K l := rfl
    rw [e]
    cases i with
    | zero =>
      simp at h
      subst h
      rw [Nat.zero_mul, Nat.zero_add, List.set_append_left _ _ (by rw [hK.len]; exact hj), ← hy]
      rfl
    | succ i =>
      have := ih i (by simpa using h)
      rw [List.set_append_right _ _ (by rw [hK.len, Nat.add_mul]; omega), hK.len]
      rw [show (i + 1) * K.n + j - K.n = i * K.n + j by rw [Nat.add_mul]; omega, this]
      rfl

/-- A cell of a row of one's own is set. -/
theorem OwnG.set {α : Type} {K : El α} (hK : K.Ok) {w : World} {g o n cap : Nat} {l : List α} (h : OwnG K w (.slice (some ⟨g, o, none⟩) n cap) l) (i j : Nat) (x y : α) (u : Value) (hx : l[i]? = some x) (hj : j < K.n) (hy : K.f y = (K.f x).set j u) :
    OwnG K (w.setCell ⟨g, o + i * K.n + j, none⟩ u) (.slice (some ⟨g, o, none⟩) n cap) (l.set i y) := by
  rcases h with ⟨hn, _⟩ | ⟨g', o', cap', cur, he, hg, hnc, hcm, hcs, ht⟩
  · simp at hn
  · simp only [Value.slice.injEq, Option.some.injEq, Addr.mk.injEq] at he
    obtain ⟨⟨rfl, rfl, _⟩, rfl, rfl⟩ := he
    have hs : (w.setCell ⟨g, o + i * K.n + j, none⟩ u).heap[g]? = some (.cells (cur.set! (o + i * K.n + j) u) K.e (0, 0)) := by
      unfold World.setCell
      simp [Array.getElem?_modify, hg]
    refine .inr ⟨g, o, cap, _, by simp, hs, by simpa using hnc, hcm, by simpa using hcs, ?_⟩
    rw [← cg_set hK l i j x y u hx hj hy, ← ht]
    simp only [Array.set!_eq_setIfInBounds, Array.toList_setIfInBounds, List.length_set]
    rw [Nat.add_assoc, List.drop_set, if_neg (by omega), Nat.add_sub_cancel_left, List.take_set]

/-- What may turn, told by kinds: blocks from c on of these types. -/
def Tk (ts : List TypeId) (c : Nat) (w : World) (k : Nat) : Prop := c ≤ k ∧ ∃ cur t, w.heap[k]? = some (.cells cur t (0, 0)) ∧ t ∈ ts

theorem Fr.tk {ts : List TypeId} {c : Nat} {a b d : World} (h : Fr (Tk ts c a) a b) (k : Fr (Tk ts c b) b d) : Fr (Tk ts c a) a d :=
  h.trans k (fun _ _ f => f) (fun i hi f => by
    by_cases g : Tk ts c a i
    · exact g
    · have e := h.block i hi g
      unfold Tk at f ⊢
      rw [e] at f
      exact f)

theorem Fr.tab {ts : List TypeId} {W w w' : World} (h : Fr no W w) (k : Fr (Tk ts W.heap.size w) w w') : Fr no W w' :=
  h.new k (fun i hi f => by have := f.1; omega)

theorem OwnG.tk {α : Type} {K : El α} {ts : List TypeId} {c : Nat} {w w' : World} {v : Value} {l : List α} (h : OwnG K w v l) (hf : Fr (Tk ts c w) w w') (hn : K.e ∉ ts) : OwnG K w' v l :=
  h.kept hf (fun k hk f => by
    obtain ⟨cur, hc⟩ := h.tag hk
    obtain ⟨_, cur', t, h1, h2⟩ := f
    rw [hc] at h1
    simp only [Option.some.injEq, Obj.cells.injEq] at h1
    exact hn (h1.2.1 ▸ h2))

theorem Fr.box {ts : List TypeId} {c : Nat} {w w' : World} (hf : Fr (Tk ts c w) w w') {k : Nat} {cur : Array Value} {t : TypeId} (h : w.heap[k]? = some (.cells cur t (0, 0))) (hn : t ∉ ts) : w'.heap[k]? = some (.cells cur t (0, 0)) :=
  hf.heap h (fun f => by
    obtain ⟨_, cur', t', h1, h2⟩ := f
    rw [h] at h1
    simp only [Option.some.injEq, Obj.cells.injEq] at h1
    exact hn (h1.2.1 ▸ h2))

/-- In block p: n threads were begun; T: all twelve places. -/
structure PS (w : World) (p n : Nat) (T : List (Int × Int)) : Prop where
  len : T.length = 12
  le : n ≤ 12
  cells : w.heap[p]? = some (.cells (.int .i64 (n : Int) :: cg elD T).toArray 63 (0, 0))

section
variable {w : World} {p n : Nat} {T : List (Int × Int)}

theorem PS.thaw (h : PS w p n T) (i : Nat) : w.frozen? ⟨p, i, none⟩ = false := by
  simp [World.frozen?, h.cells]

theorem PS.begun (h : PS w p n T) : w.cell? ⟨p, 0, none⟩ = some (.int .i64 (n : Int)) := by
  simp [World.cell?, h.cells]

theorem PS.at (h : PS w p n T) {i : Nat} {x : Int × Int} (hx : T[i]? = some x) : w.cell? ⟨p, 1 + i * 2, none⟩ = some (.int .i64 x.1) ∧ w.cell? ⟨p, 1 + i * 2 + 1, none⟩ = some (.int .i64 x.2) := by
  have h0 := cg_get elD_ok T i x hx 0 (.int .i64 x.1) rfl
  have h1 := cg_get elD_ok T i x hx 1 (.int .i64 x.2) rfl
  have e2 : elD.n = 2 := rfl
  rw [e2] at h0 h1
  constructor
  · simp only [World.cell?, h.cells]
    simp only [List.getElem?_toArray]
    rw [show 1 + i * 2 = (i * 2 + 0) + 1 by omega, List.getElem?_cons_succ]
    exact h0
  · simp only [World.cell?, h.cells]
    simp only [List.getElem?_toArray]
    rw [show 1 + i * 2 + 1 = (i * 2 + 1) + 1 by omega, List.getElem?_cons_succ]
    exact h1

theorem PS.kept {S : Nat → Prop} {w' : World} (h : PS w p n T) (hf : Fr S w w') (hS : ¬ S p) : PS w' p n T := ⟨h.len, h.le, hf.heap h.cells hS⟩
theorem PS.keep {w' : World} (h : PS w p n T) (hf : Fr no w w') : PS w' p n T := h.kept hf (fun f => f)

theorem PS.put0 (h : PS w p n T) (m : Nat) (hm : m ≤ 12) : PS (w.setCell ⟨p, 0, none⟩ (.int .i64 (m : Int))) p m T := by
  refine ⟨h.len, hm, ?_⟩
  unfold World.setCell
  simp [Array.getElem?_modify, h.cells]

theorem PS.put1 (h : PS w p n T) {i : Nat} {x : Int × Int} (hx : T[i]? = some x) (s : Int) : PS (w.setCell ⟨p, 1 + i * 2, none⟩ (.int .i64 s)) p n (T.set i (s, x.2)) := by
  refine ⟨by simpa using h.len, h.le, ?_⟩
  have e := cg_set elD_ok T i 0 x (s, x.2) (.int .i64 s) hx (by decide) rfl
  rw [← e]
  unfold World.setCell
  simp only [Array.getElem?_modify, h.cells]
  rw [show 1 + i * 2 = (i * 2 + 0) + 1 by omega]
  simp [elD]

theorem PS.put2 (h : PS w p n T) {i : Nat} {x : Int × Int} (hx : T[i]? = some x) (s : Int) : PS (w.setCell ⟨p, 1 + i * 2 + 1, none⟩ (.int .i64 s)) p n (T.set i (x.1, s)) := by
  refine ⟨by simpa using h.len, h.le, ?_⟩
  have e := cg_set elD_ok T i 1 x (x.1, s) (.int .i64 s) hx (by decide) rfl
  rw [← e]
  unfold World.setCell
  simp only [Array.getElem?_modify, h.cells]
  rw [show 1 + i * 2 + 1 = (i * 2 + 1) + 1 by omega]
  simp [elD]

theorem PS.tp (h : PS w p n T) {c : Nat} (hc : c ≤ p) : Tk [63] c w p := ⟨hc, _, _, h.cells, by simp⟩
end

/-- Of the first k of a row those that are so, by their numbers. -/
def sel (P : Int × Int → Bool) (T : List (Int × Int)) : Nat → List Int
  | 0 => []
  | k + 1 => sel P T k ++ (match T[k]? with | some x => if P x then [(k : Int) + 1] else [] | none => [])

theorem sel_yes {P : Int × Int → Bool} {T : List (Int × Int)} {k : Nat} {x : Int × Int} (hx : T[k]? = some x) (h : P x = true) : sel P T (k + 1) = sel P T k ++ [(k : Int) + 1] := by
  simp [sel, hx, h]

theorem sel_no {P : Int × Int → Bool} {T : List (Int × Int)} {k : Nat} {x : Int × Int} (hx : T[k]? = some x) (h : P x = false) : sel P T (k + 1) = sel P T k := by
  simp [sel, hx, h]

theorem sel_skip {P : Int × Int → Bool} {T : List (Int × Int)} {i j : Nat} (hij : i ≤ j) (h : ∀ k x, i ≤ k → k < j → T[k]? = some x → P x = false) : sel P T j = sel P T i := by
  induction j with
  | zero => obtain rfl : i = 0 := by omega
            rfl
  | succ j ih =>
    by_cases e : i = j + 1
    · rw [e]
    · have h1 := ih (by omega) (fun k x a b c => h k x a (by omega) c)
      cases hx : T[j]? with
      | none => simp [sel, hx, h1]
      | some x => rw [sel_no hx (h j x (by omega) (by omega) hx), h1]

theorem sel_len (P : Int × Int → Bool) (T : List (Int × Int)) (k : Nat) : (sel P T k).length ≤ k := by
  induction k with
  | zero => simp [sel]
  | succ k ih =>
    have : (sel P T (k + 1)).length = (sel P T k).length + (match T[k]? with | some x => if P x then [(k : Int) + 1] else [] | none => []).length := by simp [sel]
    rw [this]
    have : (match T[k]? with | some x => if P x then [(k : Int) + 1] else [] | none => []).length ≤ 1 := by
      split
      · split <;> simp
      · simp
    omega

theorem sel_mem {P : Int × Int → Bool} {T : List (Int × Int)} {k : Nat} {y : Int} (h : y ∈ sel P T k) : ∃ (j : Nat) (x : Int × Int), y = (j : Int) + 1 ∧ j < k ∧ T[j]? = some x ∧ P x = true := by
  induction k with
  | zero => simp [sel] at h
  | succ k ih =>
    simp only [sel, List.mem_append] at h
    rcases h with h | h
    · obtain ⟨j, x, a, b, c⟩ := ih h
      exact ⟨j, x, a, by omega, c⟩
    · cases hx : T[k]? with
      | none => simp [hx] at h
      | some x =>
        simp only [hx] at h
        by_cases hp : P x = true
        · simp [hp] at h
          exact ⟨k, x, h, by omega, hx, hp⟩
        · simp [hp] at h

/-- The first k turned. -/
def upto (f : Int × Int → Int × Int) (k : Nat) (T : List (Int × Int)) : List (Int × Int) := (T.take k).map f ++ T.drop k

theorem upto_zero (f : Int × Int → Int × Int) (T : List (Int × Int)) : upto f 0 T = T := by simp [upto]
theorem upto_len (f : Int × Int → Int × Int) (k : Nat) (T : List (Int × Int)) : (upto f k T).length = T.length := by simp [upto]; omega
theorem upto_get {f : Int × Int → Int × Int} {k i : Nat} {T : List (Int × Int)} (h : k ≤ i) : (upto f k T)[i]? = T[i]? := by
  unfold upto
  by_cases hk : k ≤ T.length
  · rw [List.getElem?_append_right (by simp; omega)]
    simp only [List.length_map, List.length_take, List.getElem?_drop]
    rw [show k + (i - min k T.length) = i by omega]
  · rw [List.getElem?_eq_none (by simp; omega), List.getElem?_eq_none (by omega)]
theorem upto_low {f : Int × Int → Int × Int} {k i : Nat} {T : List (Int × Int)} (h : i < k) : (upto f k T)[i]? = T[i]?.map f := by
  unfold upto
  by_cases hi : i < T.length
  · rw [List.getElem?_append_left (by simp; omega), List.getElem?_map, List.getElem?_take, if_pos h]
  · rw [List.getElem?_eq_none (by simp; omega), List.getElem?_eq_none (l := T) (by omega)]
    rfl
theorem upto_step {f : Int × Int → Int × Int} {k : Nat} {T : List (Int × Int)} {x : Int × Int} (hx : T[k]? = some x) : upto f (k + 1) T = (upto f k T).set k (f x) := by
  apply List.ext_getElem?
  intro i
  rw [List.getElem?_set, upto_len]
  have hk := (List.getElem?_eq_some_iff.1 hx).1
  by_cases h : k = i
  · subst h
    rw [if_pos rfl, if_pos hk, upto_low (by omega), hx]
    rfl
  · rw [if_neg h]
    by_cases hl : i < k
    · rw [upto_low (by omega), upto_low hl]
    · rw [upto_get (by omega), upto_get (by omega)]
theorem upto_same {f : Int × Int → Int × Int} {k : Nat} {T : List (Int × Int)} {x : Int × Int} (hx : T[k]? = some x) (h : f x = x) : upto f (k + 1) T = upto f k T := by
  rw [upto_step hx, h]
  apply List.ext_getElem?
  intro i
  rw [List.getElem?_set]
  by_cases e : k = i
  · subst e
    rw [if_pos rfl]
    have hk := (List.getElem?_eq_some_iff.1 hx).1
    rw [if_pos (by rw [upto_len]; exact hk), upto_get (Nat.le_refl _), hx]
  · rw [if_neg e]
theorem upto_skip {f : Int × Int → Int × Int} {i j : Nat} {T : List (Int × Int)} (hij : i ≤ j) (h : ∀ k x, i ≤ k → k < j → T[k]? = some x → f x = x) : upto f j T = upto f i T := by
  induction j with
  | zero => obtain rfl : i = 0 := by omega
            rfl
  | succ j ih =>
    by_cases e : i = j + 1
    · rw [e]
    · have h1 := ih (by omega) (fun k x a b c => h k x a (by omega) c)
      cases hx : T[j]? with
      | none =>
        have hl := List.getElem?_eq_none_iff.1 hx
        rw [← h1]
        unfold upto
        rw [List.take_of_length_le (by omega), List.take_of_length_le (by omega), List.drop_of_length_le (by omega), List.drop_of_length_le (by omega)]
      | some x => rw [upto_same hx (h j x (by omega) (by omega) hx), h1]
end Go.Proofs.Ytancclmnliiijaa
