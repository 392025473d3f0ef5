/- Marks in memory: rows of one's own that are written and cut. -/
import Derived.Test.YtopcbcdigllenaaAb
import Derived.Test.YtopcbcdigllenaaCut
import Derived.Test.YtopcbcdigllenaaVw
import Derived.Test.YtopcbcdigllenaaKn
namespace Go.Proofs.Ytopcbcdigllenaa
open Go.ChangeShapes Go.WideShapes Go.ChangeAt Go.RowKit

theorem elY_ok : elY.Ok where
  und := Try.underlying50
  info := by kernel_rfl
  len := fun _ => rfl
  one := fun x u hu => by simp [elY] at hu; subst hu; rfl
  zlen := by kernel_rfl
  bs := by decide
  pos := by decide

theorem cg_set1 {α : Type} {K : El α} (hK : K.Ok) (hn : K.n = 1) (l : List α) (i : Nat) (x : α) (u : Value) (hu : K.f x = [u]) : cg K (l.set i x) = (cg K l).set i u := by
  induction l generalizing i with
  | nil => simp [cg]
  | cons y r ih =>
    obtain ⟨z, hz⟩ : ∃ z, K.f y = [z] := by
      have := hK.len y
      rw [hn] at this
      exact List.length_eq_one_iff.1 this
    cases i with
    | zero => simp [cg, hz, hu]
    | succ i =>
      have := ih i
      simp only [cg, List.set_cons_succ, List.flatMap_cons, hz, List.singleton_append] at this ⊢
      rw [this]

/-- One element of a row is written. -/
theorem OwnG.put1 {α : Type} {K : El α} (hK : K.Ok) (hn : K.n = 1) {w : World} {g o n cap : Nat} {l : List α} (h : OwnG K w (.slice (some ⟨g, o, none⟩) n cap) l) (i : Nat) {x : α} {u : Value} (hu : K.f x = [u]) :
    OwnG K (w.setCell ⟨g, o + i, none⟩ u) (.slice (some ⟨g, o, none⟩) n cap) (l.set i x) := by
  rcases h with ⟨he, _⟩ | ⟨g', o', cap', cur, he, hg, h1, h2, h3, h4⟩
  · simp at he
  · simp only [Value.slice.injEq, Option.some.injEq, Addr.mk.injEq] at he
    obtain ⟨⟨rfl, rfl, _⟩, rfl, rfl⟩ := he
    refine .inr ⟨g, o, cap, cur.setIfInBounds (o + i) u, by rw [List.length_set], ?_, by rw [List.length_set]; exact h1, h2, by simpa using h3, ?_⟩
    · unfold World.setCell
      simp only [Array.getElem?_modify, if_true, hg]
      simp
    · rw [List.length_set, cg_set1 hK hn l i x u hu, ← h4]
      simp only [Array.toList_setIfInBounds]
      rw [List.drop_set, if_neg (by omega), List.take_set]
      congr 1
      omega

theorem OwnG.take {α : Type} {K : El α} (hK : K.Ok) {w : World} {g o n cap : Nat} {l : List α} (h : OwnG K w (.slice (some ⟨g, o, none⟩) n cap) l) (k : Nat) (hk : k ≤ l.length) :
    OwnG K w (.slice (some ⟨g, o, none⟩) k cap) (l.take k) := by
  rcases h with ⟨he, _⟩ | ⟨g', o', cap', cur, he, hg, h1, h2, h3, h4⟩
  · simp at he
  · simp only [Value.slice.injEq, Option.some.injEq, Addr.mk.injEq] at he
    obtain ⟨⟨rfl, rfl, _⟩, rfl, rfl⟩ := he
    have hl : (l.take k).length = k := by simp; omega
    refine .inr ⟨g, o, cap, cur, by rw [hl], hg, by omega, h2, h3, ?_⟩
    rw [hl, ← cg_take hK, ← h4, List.take_take, Nat.min_eq_left (Nat.mul_le_mul_right _ hk)]

/-- A row cut off, still one's own. -/
theorem cut_own {α : Type} {K : El α} (hK : K.Ok) (he : Try.prog.elem K.t = K.e) {w : World} {g o n cap : Nat} {l : List α} (h : OwnG K w (.slice (some ⟨g, o, none⟩) n cap) l) (k : Nat) (hk : k ≤ l.length) :
    (∀ w', (Instr.slice K.t (.slice (some ⟨g, o, none⟩) n cap) none (some (.int .i64 (k : Int))) none).run Try.prog w' = .ok (.slice (some ⟨g, o, none⟩) k cap) w') ∧
      (∀ w', (Instr.sliceAt K.t (.slice (some ⟨g, o, none⟩) n cap) none (some (.int .i64 (k : Int))) none).run Try.prog w' = .ok (.slice (some ⟨g, o, none⟩) k cap) w') := by
  obtain ⟨i0, hi, hz0, hz1, hz2⟩ := info_parts hK.info
  have hu : Try.prog.underlying K.t = some (.slice (Try.prog.elem K.t)) := by rw [he]; exact hK.und
  have hnc : l.length ≤ cap := by
    rcases h with ⟨hn, _⟩ | ⟨g', o', cap', cur, he, _, hnc, _⟩
    · simp at hn
    · simp only [Value.slice.injEq] at he
      omega
  have R : ∀ w', (Instr.slice K.t (.slice (some ⟨g, o, none⟩) n cap) none (some (.int .i64 (k : Int))) none).run Try.prog w' = .ok (.slice (some ⟨g, o, none⟩) k cap) w' := by
    intro w'
    rw [run_slice_h (P := Try.prog) w' K.t (some ⟨g, o, none⟩) n cap hu .i64 (k : Int) (by omega) (by omega), he]
    simp [sizeOf, typeInfo, hi, sliced, Addr.add_lit]
  refine ⟨R, fun w' => ?_⟩
  rw [run_sliceAt_slice (P := Try.prog) w' K.t _ _ _ _ hu]
  exact R w'

/-- The marks in memory: the objects, what is known of each address, the stack. -/
structure Mk (w : World) (m : Nat) (vO vM vS : Value) (O : List Int) (M : List Nat) (S : List Int) : Prop where
  hd : w.heap[m]? = some (.cells #[vO, vM, vS] 88 (0, 0))
  o : OwnG elI w vO O
  mm : OwnG elY w vM M
  s : OwnG elI w vS S
  ap : ∀ k, vO.ownBlock = some k → vS.ownBlock ≠ some k

/-- The blocks that a walk writes. -/
def mB (m : Nat) (vM vS : Value) (k : Nat) : Prop := k = m ∨ vM.ownBlock = some k ∨ vS.ownBlock = some k

theorem Mk.kept {T : Nat → Prop} {w w' : World} {m : Nat} {vO vM vS : Value} {O : List Int} {M : List Nat} {S : List Int} (h : Mk w m vO vM vS O M S) (f : Fr T w w') (h1 : ∀ k, mB m vM vS k → ¬ T k) (h2 : ∀ k, vO.ownBlock = some k → ¬ T k) : Mk w' m vO vM vS O M S :=
  ⟨f.heap h.hd (h1 m (.inl rfl)), h.o.kept f h2, h.mm.kept f (fun k hk => h1 k (.inr (.inl hk))), h.s.kept f (fun k hk => h1 k (.inr (.inr hk))), h.ap⟩

theorem Mk.keep {w w' : World} {m : Nat} {vO vM vS : Value} {O : List Int} {M : List Nat} {S : List Int} (h : Mk w m vO vM vS O M S) (f : Fr no w w') : Mk w' m vO vM vS O M S := h.kept f (fun _ _ x => x) (fun _ _ x => x)

theorem Mk.cells {w : World} {m : Nat} {vO vM vS : Value} {O : List Int} {M : List Nat} {S : List Int} (h : Mk w m vO vM vS O M S) : w.cell? ⟨m, 0, none⟩ = some vO ∧ w.cell? ⟨m, 1, none⟩ = some vM ∧ w.cell? ⟨m, 2, none⟩ = some vS := by
  simp [World.cell?, h.hd]

theorem Mk.thaw {w : World} {m : Nat} {vO vM vS : Value} {O : List Int} {M : List Nat} {S : List Int} (h : Mk w m vO vM vS O M S) (i : Nat) : w.frozen? ⟨m, i, none⟩ = false := by
  simp [World.frozen?, h.hd]

/-- Rows of different kinds lie apart. -/
theorem own_apart {α β : Type} {K : El α} {L : El β} {w : World} {v u : Value} {l : List α} {r : List β} (h : OwnG K w v l) (h' : OwnG L w u r) (hne : K.e ≠ L.e) (k : Nat) (hk : v.ownBlock = some k) : u.ownBlock ≠ some k := fun e => by
  obtain ⟨c1, e1⟩ := h.tag hk
  obtain ⟨c2, e2⟩ := h'.tag e
  rw [e1] at e2
  simp only [Option.some.injEq, Obj.cells.injEq] at e2
  exact hne e2.2.1

theorem own_not {α : Type} {K : El α} {w : World} {v : Value} {l : List α} (h : OwnG K w v l) {m : Nat} {c : Array Value} {t : TypeId} (hm : w.heap[m]? = some (.cells c t (0, 0))) (hne : K.e ≠ t) : v.ownBlock ≠ some m := fun e => by
  obtain ⟨c1, e1⟩ := h.tag e
  rw [e1] at hm
  simp only [Option.some.injEq, Obj.cells.injEq] at hm
  exact hne hm.2.1

theorem setCell_heap {w : World} {m i : Nat} {c : Array Value} {t : TypeId} (h : w.heap[m]? = some (.cells c t (0, 0))) (u : Value) : (w.setCell ⟨m, i, none⟩ u).heap[m]? = some (.cells (c.setIfInBounds i u) t (0, 0)) := by
  unfold World.setCell
  simp only [Array.getElem?_modify, if_true, h]
  simp

theorem Fr.one {w : World} (p : Addr) (u : Value) : Fr (fun k => k = p.block) w (w.setCell p u) := (Fr.refl (fun k => k = p.block) w).setCell (p := p) (fun _ => rfl) u
end Go.Proofs.Ytopcbcdigllenaa
