/- What came in: rows of whole numbers. -/
import Derived.Test.YtopcbcdigllenaaVw
namespace Go.Proofs.Ytopcbcdigllenaa
open Go.ChangeShapes Go.WideShapes Go.ChangeAt Go.RowKit Go.Deep

theorem Try.cells3I : Try.prog.cellsOf 3 = 1 := by kernel_rfl

section
variable {H : Type} {enc : TypeId × Value → H} {w : World} {spare : Nat → Bool} {held : Bool}

theorem open_ints64 {v : Value} {d : DataW H} {ps : List MemPlace} (hv : ∃ a len cap, v = .slice a len cap) (h : DataW.Trod enc Try.prog w 0 spare held 52 v d ps) : ∃ bs : List Int, (∀ c ∈ bs, -9223372036854775808 ≤ c ∧ c ≤ 9223372036854775807) ∧ RdG elI w v bs := by
  obtain ⟨a0, len0, cap0, rfl⟩ := hv
  obtain ⟨fuel, h⟩ := h
  rcases open_ints Try.underlying52 Try.underlying3 Try.cells3I h with ⟨e, _⟩ | ⟨a, len, cap, zs, e, _, hl, hm, hz, _, hc, hw⟩
  · have e' : Value.slice a0 len0 cap0 = .slice none 0 0 := by simpa [Value.cells] using e
    rw [e']
    exact ⟨[], fun c hc => by simp at hc, none, 0, rfl, Nat.zero_le _, Nat.zero_le _, fun i x hx => by simp at hx⟩
  · have e' : Value.slice a0 len0 cap0 = .slice (some a) len cap := by simpa [Value.cells] using e
    rw [e']
    cases hz0 : len with
    | zero => exact ⟨[], fun c hc => by simp at hc, some a, cap, rfl, Nat.zero_le _, hm, fun i x hx => by simp at hx⟩
    | succ k =>
      rw [← hz0]
      have hlz : len ≤ zs.length := by rw [hz]; split <;> omega
      obtain ⟨b, o, spot⟩ := a
      have hspot : spot = none := by
        have h0 := hc 0 (by omega)
        simpa [Addr.add] using World.cell?_spot h0
      subst hspot
      have hb : ∀ z ∈ zs, -9223372036854775808 ≤ z ∧ z ≤ 9223372036854775807 := fun z hz => by simpa [Lit.wf, IntKind.min, IntKind.max, IntKind.signed, IntKind.bits] using hw z hz
      refine ⟨zs.take len, fun c hc' => ?_, some ⟨b, o, none⟩, cap, by simp; omega, by simp; omega, hm, fun i c hi => ⟨b, o, rfl, fun j u hj => ?_⟩⟩
      · exact hb c (List.mem_of_mem_take hc')
      · rw [List.getElem?_take] at hi
        split at hi
        · rename_i hil
          have hil' : i < zs.length := by omega
          have h1 := hc i hil'
          rw [Addr.add_lit] at h1
          rw [List.getElem?_eq_getElem hil'] at hi
          simp at hi
          have e3 : zs.getD i 0 = c := by rw [List.getD_eq_getElem?_getD, List.getElem?_eq_getElem hil', Option.getD_some]; exact hi
          rw [e3] at h1
          cases j with
          | zero =>
            simp only [elI, List.getElem?_cons_zero, Option.some.injEq] at hj
            subst hj
            simp only [elI, Nat.mul_one, Nat.add_zero]
            exact h1
          | succ j => simp [elI] at hj
        · simp at hi
end
end Go.Proofs.Ytopcbcdigllenaa
