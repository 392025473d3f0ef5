/- Rows of types that are cut and grow. -/
import Derived.Test.YtpfkigoffllieaaGreatDoorJaq
namespace Go.Proofs.YtpfkigoffllieaaGreatDoor
open Go.ChangeShapes Go.WideShapes Go.ChangeAt Go.RowKit
open H (ix NewV)

theorem own_heap {α : Type} {K : El α} (hK : K.Ok) {w : World} {g : Nat} (l : List α) {cs : Array Value} (hg : w.heap[g]? = some (.cells cs K.e (0, 0))) (hc : cs = (cg K l).toArray) (h : l.length ≤ maxLen) : OwnG K w (.slice (some ⟨g, 0, none⟩) l.length l.length) l := by
  subst hc
  refine ⟨⟨cg_length hK l, .inr ⟨g, l.length, (cg K l).toArray, rfl, Nat.zero_le _, hg, Nat.le_refl _, h, by simp [cg_length hK], ?_⟩⟩, fun k cur t fz hk hc => ?_⟩
  · rw [← cg_length hK]
    exact List.take_of_length_le (by simp)
  · simp only [Value.ownBlock, Option.some.injEq] at hk
    subst hk
    rw [hg] at hc
    simp only [Option.some.injEq, Obj.cells.injEq] at hc
    obtain ⟨rfl, _, _⟩ := hc
    intro u hu
    exact cg_nob hK l u (by simpa using hu)

theorem OwnG.cell1 {α : Type} {K : El α} (hK : K.Ok) {w : World} {g n cap : Nat} {l : List α} (h : OwnG K w (.slice (some ⟨g, 0, none⟩) n cap) l) {k j : Nat} {y : α} (hy : l[k]? = some y) (x : α) (u : Value) (hj : j < K.n) (hx : K.f x = (K.f y).set j u) :
    OwnG K (w.setCell ⟨g, k * K.n + j, none⟩ u) (.slice (some ⟨g, 0, none⟩) n cap) (l.set k x) := by
  obtain ⟨cur, hc, rfl, hn, hm, hs, ht, hnb⟩ := h.cur
  have hk : k < l.length := (List.getElem?_eq_some_iff.1 hy).1
  have hkc : (k + 1) * K.n ≤ cap * K.n := Nat.mul_le_mul_right _ (by omega)
  have hkl : (k + 1) * K.n ≤ l.length * K.n := Nat.mul_le_mul_right _ (by omega)
  rw [Nat.add_mul, Nat.one_mul] at hkc hkl
  refine h.put hK hc (set_at hc) (by simp) hk x (fun j' u' hj' => ?_) (fun j' hj' => ?_)
  · rw [hx] at hj'
    have hj'n : j' < K.n := by
      have := (List.getElem?_eq_some_iff.1 hj').1
      rwa [List.length_set, hK.len] at this
    by_cases e : j' = j
    · subst e
      rw [List.getElem?_set_self (by rw [hK.len]; exact hj)] at hj'
      rw [Array.getElem?_setIfInBounds, if_pos rfl, if_pos (by rw [hs]; omega)]
      exact hj'
    · rw [List.getElem?_set_ne (Ne.symm e)] at hj'
      rw [Array.getElem?_setIfInBounds, if_neg (by omega)]
      have := cg_get hK l k y hy j' u' hj'
      rw [← ht, List.getElem?_take, if_pos (by omega), Array.getElem?_toList] at this
      exact this
  · rw [Array.getElem?_setIfInBounds, if_neg (by omega)]

theorem ne_tag {w : World} {a b : Nat} {x y : Array Value} {s t : TypeId} (ha : w.heap[a]? = some (.cells x s (0, 0))) (hb : w.heap[b]? = some (.cells y t (0, 0))) (h : s ≠ t) : a ≠ b := fun e => by
  subst e
  rw [ha] at hb
  simp only [Option.some.injEq, Obj.cells.injEq] at hb
  exact h hb.2.1


theorem OwnG.take {α : Type} {K : El α} (hK : K.Ok) {w : World} {q : Option Addr} {n cap : Nat} {l : List α} (h : OwnG K w (.slice q n cap) l) (k : Nat) (hk : k ≤ l.length) : OwnG K w (.slice q k cap) (l.take k) := by
  have hlen : (l.take k).length = k := by rw [List.length_take]; omega
  refine ⟨⟨cg_length hK _, ?_⟩, fun g cur t fz hg hc => h.2 g cur t fz (by cases q with | none => exact hg | some a => exact hg) hc⟩
  rcases h.1.2 with ⟨e, h0⟩ | ⟨g, cap', cur, e, hb, hg, hn, hm, hs, ht⟩
  · simp only [Value.slice.injEq] at e
    obtain ⟨rfl, rfl, rfl⟩ := e
    exact .inl ⟨by rw [show k = 0 by omega], by rw [hlen]; omega⟩
  · simp only [Value.slice.injEq] at e
    obtain ⟨rfl, rfl, rfl⟩ := e
    refine .inr ⟨g, cap, cur, by rw [hlen], hb, hg, by rw [hlen]; omega, hm, hs, ?_⟩
    rw [hlen]
    have h1 : (cg K l).take (k * K.n) = cg K (l.take k) := by
      have e1 : cg K l = cg K (l.take k) ++ cg K (l.drop k) := by rw [cg_append, List.take_append_drop]
      rw [e1, List.take_left' (by rw [cg_length hK, hlen])]
    rw [← h1, ← ht, List.take_take]
    rw [Nat.min_eq_left (Nat.mul_le_mul_right _ hk)]

theorem run_apd0 {α : Type} {K : El α} (hK : K.Ok) (w : World) (v : Value) (l : List α) (hown : OwnG K w v l) (x : Value) (m : List α) (hs : Src Tryz.prog K.n K.t x m.length (cg K m) w) (hb : l.length + m.length ≤ 1000000) :
    ∃ v' w', (Builtin.append_ #[K.t, K.t] K.t #[v, x]).run Tryz.prog w = .ok v' w' ∧ OwnG K w' v' (l ++ m) ∧ Sp no v w v' w' := by
  by_cases hz : v = .slice none 0 0 ∧ m = []
  · obtain ⟨rfl, rfl⟩ := hz
    have hl : l = [] := by
      rcases hown.1.2 with ⟨_, h0⟩ | ⟨g, cap, cur, e, _⟩
      · exact List.eq_nil_of_length_eq_zero h0
      · simp at e
    subst hl
    obtain ⟨i0, hi, hz0, hz1, hz2⟩ := info_parts hK.info
    refine ⟨.slice none 0 0, w, ?_, OwnG.nil K w, Sp.refl _ _ _⟩
    have hc : cg K ([] : List α) = [] := rfl
    have hsl := hs.len
    have hsc := hs.cells
    rw [hc] at hsc
    simp only [List.length_nil] at hsl hsc
    rcases hs.kind with ⟨e', hk⟩ | hk <;> simp [Builtin.append_, run_underlying hK.und, sizeOf, typeInfo, hi, hsl, hz1, hsc]
  · exact run_apdG hK w v l hown x m hs (fun e em => hz ⟨e, em⟩) hb

theorem wpList_apd0 {α : Type} {K : El α} (hK : K.Ok) (w : World) {ops : Array Oper} {rest : List Oper} {o : Oper} {a : Act} {Q : Exit → Act → World → Prop}
    (hg : o.guard = none) (ht : o.type = K.t) (s x : Operand) (hop : o.op = Op.call { callee := Callee.builtin Builtin.append, args := #[s, x], argTypes := #[K.t, K.t] })
    (v : Value) (l : List α) (hs : a.eval s = v) (hown : OwnG K w v l) (xv : Value) (hx : a.eval x = xv) (m : List α) (hsrc : Src Tryz.prog K.n K.t xv m.length (cg K m) w) (hb : l.length + m.length ≤ 1000000)
    (hK' : ∀ v' w', OwnG K w' v' (l ++ m) → Sp no v w v' w' → wpList Tryz.prog ops Q rest (a.put o.dst v') w') :
    wpList Tryz.prog ops Q (o :: rest) a w := by
  refine wpList_plain hg fun K2 hK2 => ?_
  obtain ⟨v', w', hrun, r1, r2⟩ := run_apd0 hK w v l hown xv m hsrc hb
  unfold Oper.wp
  simp [execOp, hop, ht, resolve, invoke, builtin, hs, hx, hrun, Result.andThen]
  exact hK2 _ _ (hK' v' w' r1 r2)
end Go.Proofs.YtpfkigoffllieaaGreatDoor
