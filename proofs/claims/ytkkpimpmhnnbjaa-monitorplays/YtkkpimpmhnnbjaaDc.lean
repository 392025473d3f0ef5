/- Appends of the document: onto a slice cut to its length, so into new memory. -/
import Derived.Test.YtkkpimpmhnnbjaaDb
namespace Go.Proofs.Ytkkpimpmhnnbjaa
open Go.ChangeShapes Go.WideShapes Go.ChangeAt Go.RowKit

variable {α : Type} {K : El α}

/-- s[:len(s):len(s)]. -/
theorem cut_full (hK : K.Ok) (he : Try.prog.elem K.t = K.e) {w : World} {o : Option Addr} {n cap : Nat} {l : List α} (h : OwnG K w (.slice o n cap) l) :
    (∀ w', (Instr.slice K.t (.slice o n cap) none (some (.int .i64 (n : Int))) (some (.int .i64 (n : Int)))).run Try.prog w' = .ok (.slice o n n) w') ∧ OwnG K w (.slice o n n) l := by
  obtain ⟨i0, hi, hz0, hz1, hz2⟩ := info_parts hK.info
  have hu : Try.prog.underlying K.t = some (.slice (Try.prog.elem K.t)) := by rw [he]; exact hK.und
  have hnc : n = l.length ∧ l.length ≤ cap := by
    rcases h with ⟨hn, hl⟩ | ⟨g', o', cap', cur, he, _, hnc, _⟩
    · simp only [Value.slice.injEq] at hn
      simp [hl, hn.2.1]
    · simp only [Value.slice.injEq] at he
      omega
  constructor
  · intro w'
    rw [run_slice_hm (P := Try.prog) w' K.t o n cap hu .i64 .i64 (n : Int) (n : Int) (by omega) (by omega) (by omega), he]
    cases o with
    | none => simp [sizeOf, typeInfo, hi, sliced]
    | some a => 
      obtain ⟨b, off, sp⟩ := a
      rcases h with ⟨hn, hl⟩ | ⟨g', o', cap', cur, he, _⟩
      · simp at hn
      · simp only [Value.slice.injEq, Option.some.injEq, Addr.mk.injEq] at he
        obtain ⟨⟨rfl, rfl, rfl⟩, -⟩ := he
        simp [sizeOf, typeInfo, hi, sliced, Addr.add_lit]
  · rcases h with ⟨hn, hl⟩ | ⟨g, o', cap', cur, he, hg, h1, h2, h3, h4⟩
    · simp only [Value.slice.injEq] at hn
      obtain ⟨rfl, rfl, rfl⟩ := hn
      exact .inl ⟨rfl, hl⟩
    · simp only [Value.slice.injEq] at he
      obtain ⟨rfl, rfl, rfl⟩ := he
      refine .inr ⟨g, o', l.length, cur, rfl, hg, Nat.le_refl _, by omega, ?_, h4⟩
      have : l.length * K.n ≤ cap * K.n := Nat.mul_le_mul_right _ h1
      omega

theorem run_apdF (hK : K.Ok) (w : World) (b : Option Addr) (n : Nat) (l : List α) (hown : OwnG K w (.slice b n n) l) (x : Value) (m : List α) (hs : Src Try.prog K.n K.t x m.length (cg K m) w) (hm : 0 < m.length)
    (hb : l.length + m.length ≤ 1000000) :
    ∃ v' w', (Builtin.append_ #[K.t, K.t] K.t #[.slice b n n, x]).run Try.prog w = .ok v' w' ∧ OwnG K w' v' (l ++ m) ∧ Fr no w w' ∧ NewV w v' := by
  obtain ⟨i0, hi, hz0, hz1, hz2⟩ := info_parts hK.info
  have ht := hK.und
  have hbs := hK.bs
  have hbb : (l.length + m.length) * K.b ≤ 1000000 * 256 := Nat.mul_le_mul hb hbs
  obtain ⟨o0, cap0, e0⟩ := hown.form
  simp only [Value.slice.injEq] at e0
  obtain ⟨-, rfl, -⟩ := e0
  have hold : (Builtin.firstCells i0.size l.length (.slice b l.length l.length)).run Try.prog w.drew = .ok (cg K l).toArray w.drew := by
    rw [hz1]
    have hown' := hown
    rcases hown with ⟨hv, hl⟩ | ⟨g, o, cap, cur, hv, hg, hnc, hcm, hcs, htake⟩
    · simp only [Value.slice.injEq] at hv
      obtain ⟨rfl, -, -⟩ := hv
      subst hl
      simpa [cg] using run_firstCells_none (P := Try.prog) w.drew K.n 0 0 0
    · simp only [Value.slice.injEq] at hv
      obtain ⟨rfl, -, rfl⟩ := hv
      refine run_firstCells_some (P := Try.prog) w.drew K.n l.length ⟨g, o, none⟩ l.length l.length (cg K l) (cg_length hK l) ?_
      intro j u hj
      rw [Addr.add_lit]
      exact hown'.cells j u hj
  have hr := run_append_grow_src (P := Try.prog) w K.t K.t K.t K.e i0 K.z ht hi hz0 b l.length l.length (cg K l) hold x m.length (cg K m) (by rw [hz1]; exact hs) (by omega) (by omega)
    (by rw [hz2]; exact growslice_fits (by omega) (by omega))
  have hge := grownCap_ge w (l.length + m.length) l.length K.e
  have hcm : grownCap w (l.length + m.length) l.length K.e ≤ maxLen := grownCap_le_maxLen w _ l.length K.e (by unfold maxLen; omega)
  refine ⟨_, _, hr, .inr ⟨w.heap.size, 0, grownCap w (l.length + m.length) l.length K.e, _, ?_, heap_alloc_new w.drew _, ?_, hcm, ?_, ?_⟩, ?_, ?_⟩
  · simp
  · simpa using hge
  · simp only [Array.size_append, List.size_toArray, size_zeroCells, List.length_append, cg_length hK]
    rw [hK.zlen]
    obtain ⟨d, hd⟩ : ∃ d, grownCap w (l.length + m.length) l.length K.e = (l.length + m.length) + d := ⟨_, (Nat.add_sub_of_le hge).symm⟩
    rw [hd, Nat.add_sub_cancel_left, Nat.add_mul, Nat.add_mul]
    omega
  · rw [cg_append, Array.toList_append, List.drop_zero]
    simp only []
    rw [List.take_append_of_le_length (by rw [cg_length hK]; omega)]
    exact List.take_of_length_le (by rw [cg_length hK]; omega)
  · exact (Fr.refl _ w).drew.alloc _ _
  · intro k e
    simp [Value.ownBlock] at e
    omega

theorem step_apdF (hK : K.Ok) (w : World) {ops : Array Oper} {o : Oper} {a : Act} {K2 : Act → World → Prop} {Q : Exit → Act → World → Prop} {E : Prop}
    (hg : o.guard = none) (ht : o.type = K.t) (s x : Operand) (hop : o.op = Op.call { callee := Callee.builtin Builtin.append, args := #[s, x], argTypes := #[K.t, K.t] })
    (b : Option Addr) (n : Nat) (l : List α) (hs : a.eval s = .slice b n n) (hown : OwnG K w (.slice b n n) l) (xv : Value) (hx : a.eval x = xv) (m : List α) (hsrc : Src Try.prog K.n K.t xv m.length (cg K m) w) (hm : 0 < m.length)
    (hb : l.length + m.length ≤ 1000000)
    (hK' : ∀ v' w', OwnG K w' v' (l ++ m) → Fr no w w' → NewV w v' → K2 (a.put o.dst v') w') :
    if Region.wanted o (yielded ops a.tmps) = true then Oper.wp Try.prog o a w K2 Q else E := by
  have hw : Region.wanted o (yielded ops a.tmps) = true := by simp [Region.wanted, hg]
  rw [if_pos hw]
  obtain ⟨v', w', hrun, r1, r2, r3⟩ := run_apdF hK w b n l hown xv m hsrc hm hb
  unfold Oper.wp
  simp [execOp, hop, ht, resolve, invoke, builtin, hs, hx, hrun, Result.andThen]
  exact hK' v' w' r1 r2 r3
end Go.Proofs.Ytkkpimpmhnnbjaa
