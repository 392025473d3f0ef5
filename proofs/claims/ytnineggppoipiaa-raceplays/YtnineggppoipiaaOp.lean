/- What came in: rows of steps. -/
import Derived.Test.YtnineggppoipiaaPy
import Derived.Test.YtnineggppoipiaaLift
namespace Go.Proofs.Ytnineggppoipiaa
open Go.ChangeShapes Go.WideShapes Go.ChangeAt Go.RowKit Go.Deep

theorem Try.cells3 : Try.prog.cellsOf 3 = 1 := by kernel_rfl
theorem Try.cells29 : Try.prog.cellsOf 29 = 4 := by kernel_rfl

section
variable {H : Type} {enc : TypeId × Value → H} {w : World} {spare : Nat → Bool} {held : Bool}

theorem four_of {α : Type} : ∀ {l : List α}, l.length = 4 → ∃ a b c d, l = [a, b, c, d]
  | [a, b, c, d], _ => ⟨a, b, c, d, rfl⟩

set_option maxRecDepth 100000 in
theorem open_four {fuel : Nat} {cs : List Value} {y : DataW H × List MemPlace} (h : DataW.trod enc Try.prog w 0 spare held fuel 29 cs = some y) (hl : cs.length = 4) :
    ∃ z0 z1 z2 z3 : Int, cs = [.int .i64 z0, .int .i64 z1, .int .i64 z2, .int .i64 z3] ∧ (Lit.int .i64 z0).wf = true ∧ (Lit.int .i64 z1).wf = true ∧ (Lit.int .i64 z2).wf = true ∧ (Lit.int .i64 z3).wf = true := by
  obtain ⟨xs, n, _, rfl, _, hxl, hf⟩ := DataW.trod_struct Try.underlying29 h
  obtain ⟨v0, v1, v2, v3, rfl⟩ : ∃ v0 v1 v2 v3, cs = [v0, v1, v2, v3] := by
    exact four_of hl
  obtain ⟨x0, x1, x2, x3, rfl⟩ : ∃ x0 x1 x2 x3, xs = [x0, x1, x2, x3] := by
    match xs, hxl with
    | [v0, v1, v2, v3], _ => exact ⟨v0, v1, v2, v3, rfl⟩
  have g0 : DataW.trod enc Try.prog w 0 spare held n 3 ((([v0, v1, v2, v3] : List Value).drop 0).take (Try.prog.cellsOf 3)) = some x0 := hf 0 _ rfl
  rw [Try.cells3] at g0
  have g1 : DataW.trod enc Try.prog w 0 spare held n 3 ((([v0, v1, v2, v3] : List Value).drop 1).take (Try.prog.cellsOf 3)) = some x1 := hf 1 _ rfl
  rw [Try.cells3] at g1
  have g2 : DataW.trod enc Try.prog w 0 spare held n 3 ((([v0, v1, v2, v3] : List Value).drop 2).take (Try.prog.cellsOf 3)) = some x2 := hf 2 _ rfl
  rw [Try.cells3] at g2
  have g3 : DataW.trod enc Try.prog w 0 spare held n 3 ((([v0, v1, v2, v3] : List Value).drop 3).take (Try.prog.cellsOf 3)) = some x3 := hf 3 _ rfl
  rw [Try.cells3] at g3
  obtain ⟨z0, e0, y0, w0⟩ := DataW.trod_int Try.underlying3 g0
  obtain ⟨z1, e1, y1, w1⟩ := DataW.trod_int Try.underlying3 g1
  obtain ⟨z2, e2, y2, w2⟩ := DataW.trod_int Try.underlying3 g2
  obtain ⟨z3, e3, y3, w3⟩ := DataW.trod_int Try.underlying3 g3
  simp only [List.drop_succ_cons, List.drop_zero, List.take_succ_cons, List.take_zero, List.cons.injEq, and_true] at e0 e1 e2 e3
  subst e0 e1 e2 e3
  exact ⟨z0, z1, z2, z3, rfl, w0, w1, w2, w3⟩
theorem in_wf {z : Int} (h : (Lit.int .i64 z).wf = true) : In z := by
  have : -9223372036854775808 ≤ z ∧ z ≤ 9223372036854775807 := by simpa [Lit.wf, IntKind.min, IntKind.max, IntKind.signed, IntKind.bits] using h
  exact this

theorem open_steps {v : Value} {d : DataW H} {ps : List MemPlace} (hv : ∃ a len cap, v = .slice a len cap) (h : DataW.Trod enc Try.prog w 0 spare held 22 v d ps) : ∃ L, (∀ x ∈ L, In x.1 ∧ In x.2.1 ∧ In x.2.2.1 ∧ In x.2.2.2) ∧ RdG elS w v L := by
  obtain ⟨a0, len0, cap0, rfl⟩ := hv
  obtain ⟨fuel, h⟩ := h
  rcases open_slice Try.underlying22 h with ⟨e, _⟩ | ⟨a, len, cap, m, n, D, Pl, e, _, hl, hm, hmm, _, hall⟩
  · have e' : Value.slice a0 len0 cap0 = .slice none 0 0 := by simpa [Value.cells] using e
    rw [e']
    exact ⟨[], fun c hc => by simp at hc, none, 0, rfl, Nat.zero_le _, Nat.zero_le _, fun i x hx => by simp at hx⟩
  · have e' : Value.slice a0 len0 cap0 = .slice (some a) len cap := by simpa [Value.cells] using e
    rw [e']
    cases hz : len with
    | zero => exact ⟨[], fun c hc => by simp at hc, some a, cap, rfl, Nat.zero_le _, hm, fun i x hx => by simp at hx⟩
    | succ k =>
      rw [← hz]
      have hlm : len ≤ m := by rw [hmm]; split <;> omega
      obtain ⟨b, o, spot⟩ := a
      have each : ∀ i, i < len → ∃ cs n y, DataW.trod enc Try.prog w 0 spare held n 29 cs = some y ∧ cs.length = 4 ∧ ∀ j, j < 4 → w.cell? (((⟨b, o, spot⟩ : Addr).add (i * 4)).add j) = cs[j]? := by
        intro i hi
        obtain ⟨cs', hcs, ht⟩ := hall i (by omega)
        rw [Try.cells29] at hcs
        obtain ⟨_, h2, h3⟩ := World.cells?_some hcs
        exact ⟨cs', n, _, ht, h2, h3⟩
      have hspot : spot = none := by
        obtain ⟨cs, _, _, _, hl2, hc⟩ := each 0 (by omega)
        have h0 := hc 0 (by omega)
        rw [List.getElem?_eq_getElem (by omega)] at h0
        simpa [Addr.add] using World.cell?_spot h0
      subst hspot
      obtain ⟨L, hL, hP⟩ := list_of (fun i (x : Int × Int × Int × Int) => (In x.1 ∧ In x.2.1 ∧ In x.2.2.1 ∧ In x.2.2.2) ∧ ∀ (j : Nat) (u : Value), (elS.f x)[j]? = some u → w.cell? ⟨b, o + i * 4 + j, none⟩ = some u) len (fun i hi => by
        obtain ⟨cs, n, y, ht, hl2, hc⟩ := each i hi
        obtain ⟨z0, z1, z2, z3, rfl, w0, w1, w2, w3⟩ := open_four ht hl2
        refine ⟨(z0, z1, z2, z3), ⟨in_wf w0, in_wf w1, in_wf w2, in_wf w3⟩, fun j u hj => ?_⟩
        have hjl : j < 4 := by
          have := (List.getElem?_eq_some_iff.1 hj).1
          simpa [elS] using this
        have c0 := hc j hjl
        rw [Addr.add_lit, Addr.add_lit] at c0
        rw [c0, ← hj]
        rfl)
      refine ⟨L, fun x hx => ?_, some ⟨b, o, none⟩, cap, by rw [hL], by omega, hm, fun i x h => ⟨b, o, rfl, (hP i x h).2⟩⟩
      obtain ⟨i, hi⟩ := List.mem_iff_getElem?.1 hx
      exact (hP i x hi).1
end

theorem plays_all (w : World) (v : Value) (l : List (Int × Int × Int × Int)) (h : RdG elS w v l) (hin : ∀ x ∈ l, In x.1 ∧ In x.2.1 ∧ In x.2.2.1 ∧ In x.2.2.2) :
    Calls Try.prog 3 #[v] w fun e w' => e = .returned (.bool true) ∧ Fr no w w' := plays_any w v l h hin
end Go.Proofs.Ytnineggppoipiaa
