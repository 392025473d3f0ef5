/- Slices of a row of one's own, and what is appended of them. -/
import Derived.Test.YtmpahllkbpofnaaMem
import Derived.Deep.RegionLaw
namespace Go.Proofs.Ytmpahllkbpofnaa
open Go.ChangeShapes Go.WideShapes Go.ChangeAt Go.RowKit

variable {α : Type} {K : El α}

theorem step_apdG (hK : K.Ok) (w : World) {ops : Array Oper} {o : Oper} {a : Act} {K2 : Act → World → Prop} {Q : Exit → Act → World → Prop} {E : Prop}
    (hg : o.guard = none) (ht : o.type = K.t) (s x : Operand) (hop : o.op = Op.call { callee := Callee.builtin Builtin.append, args := #[s, x], argTypes := #[K.t, K.t] })
    (v : Value) (l : List α) (hs : a.eval s = v) (hown : OwnG K w v l) (xv : Value) (hx : a.eval x = xv) (m : List α) (hsrc : Src Try.prog K.n K.t xv m.length (cg K m) w)
    (hb : l.length + m.length ≤ 1000000)
    (hK' : ∀ v' w', OwnG K w' v' (l ++ m) → Sp v w v' w' → K2 (a.put o.dst v') w') :
    if Region.wanted o (yielded ops a.tmps) = true then Oper.wp Try.prog o a w K2 Q else E := by
  have hw : Region.wanted o (yielded ops a.tmps) = true := by simp [Region.wanted, hg]
  rw [if_pos hw]
  obtain ⟨v', w', hrun, r1, r2⟩ := run_apdG hK w v l hown xv m hsrc hb
  unfold Oper.wp
  simp [execOp, hop, ht, resolve, invoke, builtin, hs, hx, hrun, Result.andThen]
  exact hK' v' w' r1 r2

theorem cg_take (hK : K.Ok) (l : List α) (k : Nat) : (cg K l).take (k * K.n) = cg K (l.take k) := by
  induction l generalizing k with
  | nil => simp [cg]
  | cons x l ih =>
    cases k with
    | zero => simp [cg]
    | succ k =>
      have e : cg K (x :: l) = K.f x ++ cg K l := rfl
      have e2 : cg K ((x :: l).take (k + 1)) = K.f x ++ cg K (l.take k) := rfl
      rw [e, e2, ← ih, Nat.add_mul, Nat.one_mul, List.take_append, hK.len, List.take_of_length_le (by rw [hK.len]; omega), Nat.add_sub_cancel]

theorem cg_drop (hK : K.Ok) (l : List α) (k : Nat) : (cg K l).drop (k * K.n) = cg K (l.drop k) := by
  induction l generalizing k with
  | nil => simp [cg]
  | cons x l ih =>
    cases k with
    | zero => simp
    | succ k =>
      have e : cg K (x :: l) = K.f x ++ cg K l := rfl
      rw [e, List.drop_succ_cons, ← ih, Nat.add_mul, Nat.one_mul, List.drop_append, hK.len, List.drop_of_length_le (by rw [hK.len]; omega), Nat.add_sub_cancel, List.nil_append]

/-- The first k of a row. -/
theorem cut_low (hK : K.Ok) (he : Try.prog.elem K.t = K.e) {w : World} {g o n cap : Nat} {l : List α} (h : OwnG K w (.slice (some ⟨g, o, none⟩) n cap) l) (k : Nat) (hk : k ≤ l.length) :
    ∃ sv, (∀ w', (Instr.slice K.t (.slice (some ⟨g, o, none⟩) n cap) none (some (.int .i64 (k : Int))) none).run Try.prog w' = .ok sv w') ∧
      (∀ w', (Instr.sliceAt K.t (.slice (some ⟨g, o, none⟩) n cap) none (some (.int .i64 (k : Int))) none).run Try.prog w' = .ok sv w') ∧
      ∀ w', w'.heap[g]? = w.heap[g]? → Src Try.prog K.n K.t sv (l.take k).length (cg K (l.take k)) w' := by
  obtain ⟨i0, hi, hz0, hz1, hz2⟩ := info_parts hK.info
  have hu : Try.prog.underlying K.t = some (.slice (Try.prog.elem K.t)) := by rw [he]; exact hK.und
  have hnc : l.length ≤ cap := by
    rcases h with ⟨hn, _⟩ | ⟨g', o', cap', cur, he, _, hnc, _⟩
    · simp at hn
    · simp only [Value.slice.injEq] at he
      omega
  have R : ∀ w', (Instr.slice K.t (.slice (some ⟨g, o, none⟩) n cap) none (some (.int .i64 (k : Int))) none).run Try.prog w' = .ok (.slice (some ⟨g, o, none⟩) k cap) w' := by
    intro w'
    rw [run_slice_h (P := Try.prog) w' K.t (some ⟨g, o, none⟩) n cap hu .i64 (k : Int) (by omega) (by omega), he]
    simp [sizeOf, typeInfo, hi, sliced, Addr.add_lit]
  refine ⟨_, R, fun w' => ?_, fun w' hw' => ?_⟩
  · rw [run_sliceAt_slice (P := Try.prog) w' K.t _ _ _ _ hu]
    exact R w'
  · have hl : (l.take k).length = k := by simp; omega
    rw [hl]
    refine Src.ofSlice _ hK.und _ _ _ _ (by rw [cg_length hK, hl]) (fun j u hj => ?_) (cg_one hK _)
    rw [Addr.add_lit]
    have h2 : w.cell? ⟨g, o + j, none⟩ = some u := h.cells j u (by
      rw [← cg_take hK, List.getElem?_take] at hj
      split at hj
      · exact hj
      · simp at hj)
    rw [← h2]
    exact World.cell?_of_block hw'

/-- A row from k on. -/
theorem cut_high (hK : K.Ok) (he : Try.prog.elem K.t = K.e) {w : World} {g o n cap : Nat} {l : List α} (h : OwnG K w (.slice (some ⟨g, o, none⟩) n cap) l) (k : Nat) (hk : k ≤ l.length) :
    ∃ sv, (∀ w', (Instr.slice K.t (.slice (some ⟨g, o, none⟩) n cap) (some (.int .i64 (k : Int))) none none).run Try.prog w' = .ok sv w') ∧
      (∀ w', (Instr.sliceAt K.t (.slice (some ⟨g, o, none⟩) n cap) (some (.int .i64 (k : Int))) none none).run Try.prog w' = .ok sv w') ∧
      (∀ w', w'.heap[g]? = w.heap[g]? → Src Try.prog K.n K.t sv (l.drop k).length (cg K (l.drop k)) w') ∧
      (OwnG K w sv (l.drop k) ∧ sv.ownBlock = some g) := by
  obtain ⟨i0, hi, hz0, hz1, hz2⟩ := info_parts hK.info
  have hu : Try.prog.underlying K.t = some (.slice (Try.prog.elem K.t)) := by rw [he]; exact hK.und
  obtain ⟨hn, hnc, cur, hg, hcm, hcs, ht⟩ : n = l.length ∧ l.length ≤ cap ∧ ∃ cur, w.heap[g]? = some (.cells cur K.e (0, 0)) ∧ cap ≤ maxLen ∧ o + cap * K.n ≤ cur.size ∧ (cur.toList.drop o).take (l.length * K.n) = cg K l := by
    rcases h with ⟨hn, _⟩ | ⟨g', o', cap', cur, he, hg, hnc, hcm, hcs, ht⟩
    · simp at hn
    · simp only [Value.slice.injEq, Option.some.injEq, Addr.mk.injEq] at he
      obtain ⟨⟨rfl, rfl, _⟩, rfl, rfl⟩ := he
      exact ⟨rfl, hnc, cur, hg, hcm, hcs, ht⟩
  subst hn
  have R : ∀ w', (Instr.slice K.t (.slice (some ⟨g, o, none⟩) l.length cap) (some (.int .i64 (k : Int))) none none).run Try.prog w' = .ok (sliced (some ⟨g, o, none⟩) k l.length cap K.n) w' := by
    intro w'
    rw [run_slice_l (P := Try.prog) w' K.t (some ⟨g, o, none⟩) l.length cap hu .i64 (k : Int) (by omega) (by omega), he]
    simp [sizeOf, typeInfo, hi, hz1]
  refine ⟨_, R, fun w' => ?_, fun w' hw' => ?_, ?_⟩
  · rw [run_sliceAt_slice (P := Try.prog) w' K.t _ _ _ _ hu]
    exact R w'
  · have hl : (l.drop k).length = l.length - k := by simp
    rw [hl]
    unfold sliced
    by_cases hc : cap = k
    · rw [if_pos hc]
      have hd : l.drop k = [] := List.drop_of_length_le (by omega)
      rw [hd, show l.length - k = 0 by omega]
      exact Src.ofSlice _ hK.und _ _ _ _ (by simp [cg]) (fun j u hj => by simp [cg] at hj) (fun u hu => by simp [cg] at hu)
    · rw [if_neg hc]
      simp only [Option.map_some, Addr.add_lit]
      refine Src.ofSlice _ hK.und _ _ _ _ (by rw [cg_length hK, hl]) (fun j u hj => ?_) (cg_one hK _)
      rw [Addr.add_lit]
      have h2 : w.cell? ⟨g, o + (k * K.n + j), none⟩ = some u := h.cells (k * K.n + j) u (by
        rw [← cg_drop hK, List.getElem?_drop] at hj
        exact hj)
      rw [← Nat.add_assoc] at h2
      rw [← h2]
      exact World.cell?_of_block hw'
  · unfold sliced
    by_cases hc : cap = k
    · rw [if_pos hc]
      have hd : l.drop k = [] := List.drop_of_length_le (by omega)
      rw [hd, show l.length - k = 0 by omega, show cap - k = 0 by omega]
      exact ⟨.inr ⟨g, o, 0, cur, rfl, hg, Nat.le_refl _, Nat.zero_le _, by omega, by simp [cg]⟩, rfl⟩
    · rw [if_neg hc]
      simp only [Option.map_some, Addr.add_lit]
      refine ⟨.inr ⟨g, o + k * K.n, cap - k, cur, by simp, hg, by simp; omega, by omega, ?_, ?_⟩, rfl⟩
      · rw [Nat.sub_mul]
        have : k * K.n ≤ cap * K.n := Nat.mul_le_mul_right _ (by omega)
        omega
      · rw [← cg_drop hK, ← ht, ← List.drop_drop, List.drop_take, List.length_drop, Nat.sub_mul]
end Go.Proofs.Ytmpahllkbpofnaa
