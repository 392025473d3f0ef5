/- Rows of one's own: copied within, stored into. -/
import Derived.Test.YtkkpimpmhnnbjaaCut
import Derived.Laws.CopyRow
import Derived.Deep.MidRow
namespace Go.Proofs.Ytkkpimpmhnnbjaa
open Go.ChangeShapes Go.WideShapes Go.ChangeAt Go.RowKit

variable {α : Type} {K : El α}

theorem run_copyG (hK : K.Ok) (w : World) (ty : TypeId) (g o dLen dCap : Nat) (a : Addr) (sLen sCap : Nat) (cur : Array Value) (t : TypeId) (cs : List Value)
    (hg : w.heap[g]? = some (.cells cur t (0, 0))) (hn : cs.length = Nat.min sLen dLen * K.n)
    (hsrc : ∀ j v, cs[j]? = some v → w.cell? (a.add j) = some v) (hfit : o + cs.length ≤ cur.size) (h1 : ∀ v ∈ cs, v.oneCell' = true) :
    (Builtin.copy_ #[K.t, K.t] ty #[.slice (some ⟨g, o, none⟩) dLen dCap, .slice (some a) sLen sCap]).run Try.prog w =
      .ok (goInt (Nat.min sLen dLen)) (w.setRow g (cur.toList.take o ++ cs ++ cur.toList.drop (o + cs.length)).toArray) := by
  have hl := run_loadCells_list (P := Try.prog) w a cs hsrc
  have hst := run_storeCells_at Try.prog g o t cs 0 cur w hg (by simpa using hfit) h1
  obtain ⟨i, hq, hi0, hi, hi2⟩ := info_parts hK.info
  simp [Builtin.copy_, run_underlying hK.und, Builtin.lenOf, Builtin.firstCells, sizeOf, typeInfo, hq, hi, ← hn, hl, hst]

theorem setRow_fr (w : World) (g : Nat) (cs : Array Value) : Fr (fun k => k = g) w (w.setRow g cs) :=
  ⟨rfl, rfl, by rw [setRow_size]; exact Nat.le_refl _, fun k hk hs => setRow_other w g k _ hs, fun a _ => frozen_setRow w g _ a⟩

/-- Some elements of a row are turned. -/
theorem OwnG.turn (hK : K.Ok) {w : World} {g o n cap : Nat} {l : List α} (h : OwnG K w (.slice (some ⟨g, o, none⟩) n cap) l) (i : Nat) (m : List α) (hi : i + m.length ≤ l.length) :
    ∃ cur, w.heap[g]? = some (.cells cur K.e (0, 0)) ∧ o + i * K.n + (cg K m).length ≤ cur.size ∧
      OwnG K (w.setRow g (cur.toList.take (o + i * K.n) ++ cg K m ++ cur.toList.drop (o + i * K.n + (cg K m).length)).toArray) (.slice (some ⟨g, o, none⟩) n cap) (l.take i ++ m ++ l.drop (i + m.length)) := by
  obtain ⟨hn, hnc, cur, hg, hcm, hcs, ht⟩ : n = l.length ∧ l.length ≤ cap ∧ ∃ cur, w.heap[g]? = some (.cells cur K.e (0, 0)) ∧ cap ≤ maxLen ∧ o + cap * K.n ≤ cur.size ∧ (cur.toList.drop o).take (l.length * K.n) = cg K l := by
    rcases h with ⟨hn, _⟩ | ⟨g', o', cap', cur, he, hg, hnc, hcm, hcs, ht⟩
    · simp at hn
    · simp only [Value.slice.injEq, Option.some.injEq, Addr.mk.injEq] at he
      obtain ⟨⟨rfl, rfl, _⟩, rfl, rfl⟩ := he
      exact ⟨rfl, hnc, cur, hg, hcm, hcs, ht⟩
  subst hn
  have hlm : (cg K m).length = m.length * K.n := cg_length hK m
  have h1 : i * K.n + m.length * K.n ≤ l.length * K.n := by rw [← Nat.add_mul]; exact Nat.mul_le_mul_right _ hi
  have h2 : l.length * K.n ≤ cap * K.n := Nat.mul_le_mul_right _ hnc
  have hfit : o + i * K.n + (cg K m).length ≤ cur.size := by rw [hlm]; omega
  have hl' : (l.take i ++ m ++ l.drop (i + m.length)).length = l.length := by simp; omega
  refine ⟨cur, hg, hfit, .inr ⟨g, o, cap, _, by rw [hl'], setRow_heap w g cur _ K.e _ hg, by rw [hl']; exact hnc, hcm, ?_, ?_⟩⟩
  · simp only [List.size_toArray, List.length_append, List.length_take, List.length_drop, Array.length_toList]
    omega
  · rw [hl']
    simp only []
    have e1 : (cur.toList.take (o + i * K.n) ++ cg K m ++ cur.toList.drop (o + i * K.n + (cg K m).length)).drop o = (cur.toList.drop o).take (i * K.n) ++ cg K m ++ (cur.toList.drop o).drop (i * K.n + (cg K m).length) := by
      rw [List.append_assoc, List.drop_append_of_le_length (by simp; omega), List.drop_take, show o + i * K.n - o = i * K.n by omega, List.append_assoc, List.drop_drop]
      congr 3
      omega
    rw [e1]
    generalize cur.toList.drop o = c0 at *
    have e2 : c0.take (i * K.n) = cg K (l.take i) := by
      rw [← cg_take hK, ← ht, List.take_take, Nat.min_eq_left (by omega)]
    rw [e2, ← cg_append, ← cg_append, ← cg_drop hK, ← ht, List.drop_take, List.take_append, List.take_of_length_le]
    · congr 1
      simp only [List.length_append, cg_length hK, List.length_take]
      rw [Nat.min_eq_left (by omega), Nat.add_mul]
    · simp only [List.length_append, cg_length hK, List.length_take]
      rw [Nat.min_eq_left (by omega)]
      omega

theorem run_storeG (hK : K.Ok) (w : World) (g o : Nat) (x : α) (cur : Array Value) (hg : w.heap[g]? = some (.cells cur K.e (0, 0))) (hfit : o + (cg K [x]).length ≤ cur.size) :
    (Instr.storeAt K.e (.pointer (some ⟨g, o, none⟩)) (.agg (K.f x).toArray)).run Try.prog w = .ok () (w.setRow g (cur.toList.take o ++ cg K [x] ++ cur.toList.drop (o + (cg K [x]).length)).toArray) := by
  have e : cg K [x] = K.f x := by simp [cg]
  have hst := run_storeCells_at Try.prog g o K.e (cg K [x]) 0 cur w hg (by simpa using hfit) (cg_one hK _)
  obtain ⟨i, hq, hi0, hi, hi2⟩ := info_parts hK.info
  have hl : (K.f x).length = K.n := hK.len x
  rw [e] at hst ⊢
  simp only [Nat.add_zero] at hst
  simp [Instr.storeAt, Instr.sureAddr, storeVar, sizeOf, typeInfo, hq, Value.cells, hi, hl, hst]

/-- All from i on go one further; what was there last is gone. -/
theorem shift_any (hK : K.Ok) (he : Try.prog.elem K.t = K.e) {w : World} {g o n cap : Nat} {l : List α} {z : α} (h : OwnG K w (.slice (some ⟨g, o, none⟩) n cap) (l ++ [z])) (i : Nat) (hi : i ≤ l.length) :
    ∃ dv sv w' y, (∀ w1, (Instr.slice K.t (.slice (some ⟨g, o, none⟩) n cap) (some (.int .i64 ((i : Int) + 1))) none none).run Try.prog w1 = .ok dv w1) ∧
      (∀ w1, (Instr.sliceAt K.t (.slice (some ⟨g, o, none⟩) n cap) (some (.int .i64 ((i : Int) + 1))) none none).run Try.prog w1 = .ok dv w1) ∧
      (∀ w1, (Instr.slice K.t (.slice (some ⟨g, o, none⟩) n cap) (some (.int .i64 (i : Int))) none none).run Try.prog w1 = .ok sv w1) ∧
      (∀ w1, (Instr.sliceAt K.t (.slice (some ⟨g, o, none⟩) n cap) (some (.int .i64 (i : Int))) none none).run Try.prog w1 = .ok sv w1) ∧
      (∃ m : Int, ∀ ty, (Builtin.copy_ #[K.t, K.t] ty #[dv, sv]).run Try.prog w = .ok (.int .i64 m) w') ∧
      OwnG K w' (.slice (some ⟨g, o, none⟩) n cap) (l.take i ++ y :: l.drop i) ∧ Fr (fun k => k = g) w w' := by
  obtain ⟨i0, hq, hz0, hz1, hz2⟩ := info_parts hK.info
  have hu : Try.prog.underlying K.t = some (.slice (Try.prog.elem K.t)) := by rw [he]; exact hK.und
  obtain ⟨hn, hnc⟩ : n = l.length + 1 ∧ l.length + 1 ≤ cap := by
    rcases h with ⟨hn, _⟩ | ⟨g', o', cap', cur, he, hg, hnc, hcm, hcs, ht⟩
    · simp at hn
    · simp only [Value.slice.injEq, Option.some.injEq, Addr.mk.injEq] at he
      obtain ⟨⟨rfl, rfl, _⟩, rfl, rfl⟩ := he
      exact ⟨by simp, by simpa using hnc⟩
  subst hn
  have R : ∀ k : Nat, k ≤ l.length + 1 → ∀ w1, (Instr.slice K.t (.slice (some ⟨g, o, none⟩) (l.length + 1) cap) (some (.int .i64 (k : Int))) none none).run Try.prog w1 = .ok (sliced (some ⟨g, o, none⟩) k (l.length + 1) cap K.n) w1 := by
    intro k hk w1
    rw [run_slice_l (P := Try.prog) w1 K.t (some ⟨g, o, none⟩) (l.length + 1) cap hu .i64 (k : Int) (by omega) (by omega), he]
    simp [sizeOf, typeInfo, hq, hz1]
  have RA : ∀ k : Nat, k ≤ l.length + 1 → ∀ w1, (Instr.sliceAt K.t (.slice (some ⟨g, o, none⟩) (l.length + 1) cap) (some (.int .i64 (k : Int))) none none).run Try.prog w1 = .ok (sliced (some ⟨g, o, none⟩) k (l.length + 1) cap K.n) w1 := by
    intro k hk w1
    rw [run_sliceAt_slice (P := Try.prog) w1 K.t _ _ _ _ hu]
    exact R k hk w1
  have e1 : ((i + 1 : Nat) : Int) = (i : Int) + 1 := by omega
  have R1 := R (i + 1) (by omega)
  have RA1 := RA (i + 1) (by omega)
  rw [e1] at R1 RA1
  obtain ⟨cur, hg, hfit, how⟩ := h.turn hK (i + 1) (l.drop i) (by simp; omega)
  have hsv : sliced (some ⟨g, o, none⟩) i (l.length + 1) cap K.n = .slice (some ⟨g, o + i * K.n, none⟩) (l.length + 1 - i) (cap - i) := by
    unfold sliced
    rw [if_neg (by omega)]
    simp [Addr.add_lit]
  obtain ⟨y, hy⟩ : ∃ y, (l ++ [z])[i]? = some y := ⟨_, List.getElem?_eq_getElem (by simp; omega)⟩
  have hrow : (l ++ [z]).take (i + 1) ++ l.drop i ++ (l ++ [z]).drop (i + 1 + (l.drop i).length) = l.take i ++ y :: l.drop i := by
    have hnil : (l ++ [z]).drop (i + 1 + (l.drop i).length) = [] := List.drop_of_length_le (by simp; omega)
    rw [take_next _ i y hy, List.take_append_of_le_length hi, hnil]
    simp
  rw [hrow] at how
  by_cases hlast : i = l.length
  · refine ⟨_, _, w, y, R1, RA1, R i (by omega), RA i (by omega), ⟨0, fun ty => ?_⟩, ?_, Fr.refl _ _⟩
    · rw [hsv]
      subst hlast
      have h0 : ∀ oo, oo ≤ cur.size → (Builtin.copy_ #[K.t, K.t] ty #[.slice (some ⟨g, oo, none⟩) 0 (cap - (l.length + 1)), .slice (some ⟨g, o + l.length * K.n, none⟩) (l.length + 1 - l.length) (cap - l.length)]).run Try.prog w = .ok (.int .i64 0) w := by
        intro oo hoo
        have := run_copyG hK w ty g oo 0 (cap - (l.length + 1)) ⟨g, o + l.length * K.n, none⟩ (l.length + 1 - l.length) (cap - l.length) cur K.e [] hg (by simp) (fun j v hj => by simp at hj) (by simpa using hoo) (fun v hv => by simp at hv)
        rw [this]
        simp only [List.length_nil, Nat.add_zero, List.append_nil, List.take_append_drop, Array.toArray_toList]
        rw [setRow_self w g cur _ _ hg]
        simp [goInt]
      unfold sliced
      rw [show l.length + 1 - (l.length + 1) = 0 by omega]
      split
      · exact h0 o (by omega)
      · simp only [Option.map_some, Addr.add_lit]
        exact h0 _ (by omega)
    · subst hlast
      rw [List.drop_length] at how ⊢
      have : l.take l.length ++ [y] = l ++ [z] := by
        rw [List.take_length]
        rw [List.getElem?_append_right (Nat.le_refl _)] at hy
        simp at hy
        rw [hy]
      rw [this]
      exact h
  · have hdv : sliced (some ⟨g, o, none⟩) (i + 1) (l.length + 1) cap K.n = .slice (some ⟨g, o + (i + 1) * K.n, none⟩) (l.length + 1 - (i + 1)) (cap - (i + 1)) := by
      unfold sliced
      rw [if_neg (by omega)]
      simp [Addr.add_lit]
    have hmin : Nat.min (l.length + 1 - i) (l.length + 1 - (i + 1)) = l.length - i := by
      rw [show Nat.min (l.length + 1 - i) (l.length + 1 - (i + 1)) = min (l.length + 1 - i) (l.length + 1 - (i + 1)) from rfl]
      omega
    have hcp := fun ty => run_copyG hK w ty g (o + (i + 1) * K.n) (l.length + 1 - (i + 1)) (cap - (i + 1)) ⟨g, o + i * K.n, none⟩ (l.length + 1 - i) (cap - i) cur K.e (cg K (l.drop i)) hg
      (by rw [hmin, cg_length hK]; simp) (fun j v hj => by
        rw [Addr.add_lit]
        have := h.cells (i * K.n + j) v (by
          rw [← cg_append, List.getElem?_append_left]
          · rw [← cg_drop hK, List.getElem?_drop] at hj
            exact hj
          · have := (List.getElem?_eq_some_iff.1 hj).1
            rw [cg_length hK] at this ⊢
            rw [List.length_drop, Nat.sub_mul] at this
            omega)
        rw [← Nat.add_assoc] at this
        exact this) hfit (cg_one hK _)
    refine ⟨_, _, _, y, R1, RA1, R i (by omega), RA i (by omega), ⟨((Nat.min (l.length + 1 - i) (l.length + 1 - (i + 1)) : Nat) : Int), fun ty => ?_⟩, how, setRow_fr w g _⟩
    rw [hdv, hsv]
    exact hcp ty
end Go.Proofs.Ytkkpimpmhnnbjaa
