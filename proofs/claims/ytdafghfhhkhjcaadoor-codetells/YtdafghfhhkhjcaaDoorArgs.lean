/- Rows of instructions and of bytes that came in: what their cells hold; and that they read as before behind a call that made new memory alone. -/
import Derived.Test.YtdafghfhhkhjcaaDoorLaid
import Derived.Test.YtdafghfhhkhjcaaDoorAgain
import Derived.Deep.Slices
import Derived.Carry
namespace Go.Proofs.YtdafghfhhkhjcaaDoor
open Go.ChangeShapes Go.WideShapes Go.ChangeAt Go.RowKit Go.Deep

theorem Own.head {w : World} {v : Value} {l : List Nat} (h : Own w v l) (hl : l ≠ []) : ∃ g cap, v = .slice (some ⟨g, 0, none⟩) l.length cap ∧ l.length ≤ cap ∧ cap ≤ maxLen := by
  rcases h.2 with ⟨_, h0⟩ | ⟨g, cap, cur, rfl, hb, hgg, hn, hm, hs, ht⟩
  · exact absurd (List.eq_nil_of_length_eq_zero h0) hl
  · exact ⟨g, cap, rfl, hn, hm⟩

theorem list_of {α : Type} (P : Nat → α → Prop) (n : Nat) (h : ∀ i, i < n → ∃ x, P i x) : ∃ L : List α, L.length = n ∧ ∀ i x, L[i]? = some x → P i x := by
  induction n with
  | zero => exact ⟨[], rfl, fun i x h => by simp at h⟩
  | succ n ih =>
    obtain ⟨L, hl, hL⟩ := ih (fun i hi => h i (by omega))
    obtain ⟨x, hx⟩ := h n (by omega)
    refine ⟨L ++ [x], by simp [hl], fun i y hy => ?_⟩
    rcases Nat.lt_trichotomy i n with h1 | h1 | h1
    · rw [List.getElem?_append_left (by omega)] at hy
      exact hL i y hy
    · subst h1
      rw [List.getElem?_append_right (by omega), hl, Nat.sub_self] at hy
      simp at hy
      subst hy
      exact hx
    · rw [List.getElem?_eq_none (by simp; omega)] at hy
      simp at hy

theorem Tryd.cells23 : Tryd.prog.cellsOf 23 = 2 := by kernel_rfl
theorem Tryd.cells3 : Tryd.prog.cellsOf 3 = 1 := by kernel_rfl

theorem wf_i64 {z : Int} (h : (Lit.int .i64 z).wf = true) : -9223372036854775808 ≤ z ∧ z ≤ 9223372036854775807 := by simpa [Lit.wf, IntKind.min, IntKind.max, IntKind.signed, IntKind.bits] using h

section
variable {H : Type} {enc : TypeId × Value → H} {w : World} {spare : Nat → Bool} {held : Bool}

theorem Tryd.cells5 : Tryd.prog.cellsOf 5 = 1 := by kernel_rfl
theorem open_bytes {v : Value} {d : DataW H} {ps : List MemPlace} (hv : ∃ a len cap, v = .slice a len cap) (h : DataW.Trod enc Tryd.prog w 0 spare held 30 v d ps) : ∃ bs : List Nat, (∀ c ∈ bs, c < 256) ∧ Sl w v bs := by
  obtain ⟨a0, len0, cap0, rfl⟩ := hv
  obtain ⟨fuel, h⟩ := h
  rcases open_ints Tryd.underlying30 Tryd.underlying5 Tryd.cells5 h with ⟨e, _⟩ | ⟨a, len, cap, zs, e, _, hl, hm, hz, _, hc, hw⟩
  · have e' : Value.slice a0 len0 cap0 = .slice none 0 0 := by simpa [Value.cells] using e
    rw [e']
    exact ⟨[], fun c hc => by simp at hc, .inr ⟨rfl, _, _, rfl, Nat.zero_le _, fun _ => rfl⟩⟩
  · have e' : Value.slice a0 len0 cap0 = .slice (some a) len cap := by simpa [Value.cells] using e
    rw [e']
    cases hz0 : len with
    | zero => exact ⟨[], fun c hc => by simp at hc, .inr ⟨rfl, _, cap, rfl, hm, fun h => by simp at h⟩⟩
    | succ k =>
      rw [← hz0]
      have hlz : len ≤ zs.length := by rw [hz]; split <;> omega
      obtain ⟨b, o, spot⟩ := a
      have hspot : spot = none := by
        have h0 := hc 0 (by omega)
        simpa [Addr.add] using World.cell?_spot h0
      subst hspot
      have hb : ∀ z ∈ zs, 0 ≤ z ∧ z ≤ 255 := fun z hz => by simpa [Lit.wf, IntKind.min, IntKind.max, IntKind.signed, IntKind.bits] using hw z hz
      refine ⟨(zs.take len).map Int.toNat, fun c hc' => ?_, .inl ⟨b, o, cap, by simp; omega, by simp; omega, hm, fun i c hi => ?_⟩⟩
      · obtain ⟨z, hz1, rfl⟩ := List.mem_map.1 hc'
        have := hb z (List.mem_of_mem_take hz1)
        omega
      · rw [List.getElem?_map, List.getElem?_take] at hi
        split at hi
        · rename_i hil
          have hil' : i < zs.length := by omega
          have h1 := hc i hil'
          rw [Addr.add_lit] at h1
          rw [List.getElem?_eq_getElem hil'] at hi
          simp at hi
          rw [h1]
          have h2 := hb zs[i] (List.getElem_mem hil')
          have e3 : zs.getD i 0 = (c : Int) := by rw [List.getD_eq_getElem?_getD, List.getElem?_eq_getElem hil', Option.getD_some]; omega
          rw [e3]
        · simp at hi

theorem open_two {fuel : Nat} {cs : List Value} {y : DataW H × List MemPlace} (h : DataW.trod enc Tryd.prog w 0 spare held fuel 23 cs = some y) (hl : cs.length = 2) :
    ∃ z0 z1 : Int, cs = [.int .i64 z0, .int .i64 z1] ∧ (Lit.int .i64 z0).wf = true ∧ (Lit.int .i64 z1).wf = true ∧ y = (.agg [.lit (.int .i64 z0), .lit (.int .i64 z1)], []) := by
  obtain ⟨xs, n, _, rfl, _, hxl, hf⟩ := DataW.trod_struct Tryd.underlying23 h
  obtain ⟨v0, v1, rfl⟩ : ∃ v0 v1, cs = [v0, v1] := by
    match cs, hl with
    | [v0, v1], _ => exact ⟨v0, v1, rfl⟩
  obtain ⟨x0, x1, rfl⟩ : ∃ x0 x1, xs = [x0, x1] := by
    match xs, hxl with
    | [v0, v1], _ => exact ⟨v0, v1, rfl⟩
  have g0 : DataW.trod enc Tryd.prog w 0 spare held n 3 ((([v0, v1] : List Value).drop 0).take (Tryd.prog.cellsOf 3)) = some x0 := hf 0 _ rfl
  rw [Tryd.cells3] at g0
  have g1 : DataW.trod enc Tryd.prog w 0 spare held n 3 ((([v0, v1] : List Value).drop 1).take (Tryd.prog.cellsOf 3)) = some x1 := hf 1 _ rfl
  rw [Tryd.cells3] at g1
  obtain ⟨z0, e0, y0, w0⟩ := DataW.trod_int Tryd.underlying3 g0
  obtain ⟨z1, e1, y1, w1⟩ := DataW.trod_int Tryd.underlying3 g1
  simp only [List.drop_succ_cons, List.drop_zero, List.take_succ_cons, List.take_zero, List.cons.injEq, and_true] at e0 e1
  subst e0 e1 y0 y1
  exact ⟨z0, z1, rfl, w0, w1, by simp⟩

theorem open_row {v : Value} {d : DataW H} {ps : List MemPlace} (hv : ∃ a len cap, v = .slice a len cap) (h : DataW.Trod enc Tryd.prog w 0 spare held 29 v d ps) : ∃ L, SlI w v L := by
  obtain ⟨a0, len0, cap0, rfl⟩ := hv
  obtain ⟨fuel, h⟩ := h
  rcases open_slice Tryd.underlying29 h with ⟨e, _⟩ | ⟨a, len, cap, m, n, D, Pl, e, _, hl, hm, hmm, _, hall⟩
  · have e' : Value.slice a0 len0 cap0 = .slice none 0 0 := by simpa [Value.cells] using e
    rw [e']
    exact ⟨[], _, _, rfl, Nat.zero_le _, Nat.zero_le _, fun i x h => by simp at h⟩
  · have e' : Value.slice a0 len0 cap0 = .slice (some a) len cap := by simpa [Value.cells] using e
    rw [e']
    cases hz : len with
    | zero => exact ⟨[], _, cap, rfl, Nat.zero_le _, hm, fun i x h => by simp at h⟩
    | succ k =>
      rw [← hz]
      have hlm : len ≤ m := by rw [hmm]; split <;> omega
      obtain ⟨b, o, spot⟩ := a
      have each : ∀ i, i < len → ∃ cs n y, DataW.trod enc Tryd.prog w 0 spare held n 23 cs = some y ∧ cs.length = 2 ∧ ∀ j, j < 2 → w.cell? (((⟨b, o, spot⟩ : Addr).add (i * 2)).add j) = cs[j]? := by
        intro i hi
        obtain ⟨cs', hcs, ht⟩ := hall i (by omega)
        rw [Tryd.cells23] at hcs
        obtain ⟨_, h2, h3⟩ := World.cells?_some hcs
        exact ⟨cs', n, _, ht, h2, h3⟩
      have hspot : spot = none := by
        obtain ⟨cs, _, _, _, hl2, hc⟩ := each 0 (by omega)
        have h0 := hc 0 (by omega)
        rw [List.getElem?_eq_getElem (by omega)] at h0
        simpa [Addr.add] using World.cell?_spot h0
      subst hspot
      obtain ⟨L, hL, hP⟩ := list_of (fun i (x : Int × Int) => w.cell? ⟨b, o + i * 2, none⟩ = some (.int .i64 x.1) ∧ w.cell? ⟨b, o + i * 2 + 1, none⟩ = some (.int .i64 x.2)) len (fun i hi => by
        obtain ⟨cs, n, y, ht, hl2, hc⟩ := each i hi
        obtain ⟨z0, z1, rfl, _, _, _⟩ := open_two ht hl2
        have c0 := hc 0 (by omega)
        have c1 := hc 1 (by omega)
        rw [Addr.add_lit, Addr.add_lit] at c0 c1
        exact ⟨(z0, z1), c0, c1⟩)
      exact ⟨L, _, cap, by rw [hL], by omega, hm, fun i x h => ⟨b, o, rfl, (hP i x h).1, (hP i x h).2⟩⟩

theorem Tryd.laidOut : laidOutB Tryd.prog = true := by kernel_rfl

theorem Fr.same {W w' : World} (h : Fr no W w') {p : MemPlace} (hp : p.block < W.heap.size) : W.sameAt w' p := by
  cases p with
  | cell b o => exact World.cell?_of_block (w := W) (h.block b hp (fun f => f))
  | map b => exact h.block b hp (fun f => f)

/-- What came in reads as before, behind a call that made new memory alone. -/
theorem trod_after {t : TypeId} (hr : Tryd.prog.readableRec t = true) (hrow : t < Tryd.prog.types.size) {W W' : World} {v : Value} {d : DataW H} {ps : List MemPlace} (h : DataW.Trod enc Tryd.prog W 0 (fun _ => true) true t v d ps) (hf : Fr no W W')
    (hlt : ∀ x ∈ ps, x.block < W.heap.size) {sp : Nat → Bool} (hsp : ∀ x ∈ ps, sp x.block = true) : DataW.Trod enc Tryd.prog W' 0 sp true t v d ps :=
  WideElems.Trod_stays Tryd.laidOut hr hrow h (fun x hx => hf.same (hlt x hx)) (fun x hx => hsp x hx)
end
end Go.Proofs.YtdafghfhhkhjcaaDoor
