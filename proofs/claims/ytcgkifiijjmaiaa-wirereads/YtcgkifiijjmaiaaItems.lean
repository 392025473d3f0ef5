/- A slice of items that came in: what its cells hold; and that it reads as before behind a call that made new memory alone. -/
import Derived.Test.YtcgkifiijjmaiaaCut
import Derived.Deep.Slices
import Derived.Carry
namespace Go.Proofs.Ytcgkifiijjmaiaa
open Go.ChangeShapes Go.WideShapes Go.ChangeAt Go.RowKit Go.Deep

/-- An item. -/
structure It where
  what : Int
  n : Nat
  s : ByteArray
  re : Nat
  im : Nat
  most : Int

/-- It lies at that place. -/
structure ItemAt (w : World) (b o : Nat) (x : It) : Prop where
  c0 : w.cell? ⟨b, o, none⟩ = some (.int .i64 x.what)
  c1 : w.cell? ⟨b, o + 1, none⟩ = some (.int .u64 (x.n : Int))
  c2 : w.cell? ⟨b, o + 2, none⟩ = some (.string x.s)
  c3 : w.cell? ⟨b, o + 3, none⟩ = some (.int .u64 (x.re : Int))
  c4 : w.cell? ⟨b, o + 4, none⟩ = some (.int .u64 (x.im : Int))
  c5 : w.cell? ⟨b, o + 5, none⟩ = some (.int .i64 x.most)
  n64 : x.n < 2 ^ 64
  re64 : x.re < 2 ^ 64
  im64 : x.im < 2 ^ 64
  lo : -9223372036854775808 ≤ x.most
  hi : x.most ≤ 9223372036854775807
  wlo : -9223372036854775808 ≤ x.what
  whi : x.what ≤ 9223372036854775807

theorem ItemAt.kept {w w' : World} {b o : Nat} {x : It} (h : ItemAt w b o x) (hf : Fr no w w') : ItemAt w' b o x :=
  ⟨hf.cell h.c0 (fun f => f), hf.cell h.c1 (fun f => f), hf.cell h.c2 (fun f => f), hf.cell h.c3 (fun f => f), hf.cell h.c4 (fun f => f), hf.cell h.c5 (fun f => f), h.n64, h.re64, h.im64, h.lo, h.hi, h.wlo, h.whi⟩

/-- The slice v holds the items L. -/
def IsItems (w : World) (v : Value) (L : List It) : Prop :=
  ∃ ad cap, v = .slice ad L.length cap ∧ L.length ≤ cap ∧ cap ≤ maxLen ∧ ∀ (i : Nat) (x : It), L[i]? = some x → ∃ b off, ad = some ⟨b, off, none⟩ ∧ ItemAt w b (off + i * 6) x

theorem list_of {α : Type} (P : Nat → α → Prop) (n : Nat) (h : ∀ i, i < n → ∃ x, P i x) : ∃ L : List α, L.length = n ∧ ∀ i x, L[i]? = some x → P i x := by
  induction n with
  | zero => exact ⟨[], rfl, fun i x h => by simp at h⟩
  | succ n ih =>
    obtain ⟨L, hl, hL⟩ := ih (fun i hi => h i (by omega))
    obtain ⟨x, hx⟩ := h n (by omega)
    refine ⟨L ++ [x], by simp [hl], fun i y hy => ?_⟩
    rcases Nat.lt_trichotomy i n with h1 | h1 | h1
    · rw [List.getElem?_append_left (by omega)] at hy
      exact hL i y hy
    · subst h1
      rw [List.getElem?_append_right (by omega), hl, Nat.sub_self] at hy
      simp at hy
      subst hy
      exact hx
    · rw [List.getElem?_eq_none (by simp; omega)] at hy
      simp at hy

theorem Try.cells29 : Try.prog.cellsOf 29 = 6 := by kernel_rfl
theorem Try.cells3 : Try.prog.cellsOf 3 = 1 := by kernel_rfl
theorem Try.cells27 : Try.prog.cellsOf 27 = 1 := by kernel_rfl
theorem Try.cells9 : Try.prog.cellsOf 9 = 1 := by kernel_rfl

theorem wf_i64 {z : Int} (h : (Lit.int .i64 z).wf = true) : -9223372036854775808 ≤ z ∧ z ≤ 9223372036854775807 := by simpa [Lit.wf, IntKind.min, IntKind.max, IntKind.signed, IntKind.bits] using h
theorem wf_u64 {z : Int} (h : (Lit.int .u64 z).wf = true) : 0 ≤ z ∧ z ≤ 18446744073709551615 := by simpa [Lit.wf, IntKind.min, IntKind.max, IntKind.signed, IntKind.bits] using h

section
variable {H : Type} {enc : TypeId × Value → H} {w : World} {spare : Nat → Bool} {held : Bool}

theorem open_item {b o fuel : Nat} {cs : List Value} {y : DataW H × List MemPlace} (h : DataW.trod enc Try.prog w 0 spare held fuel 29 cs = some y) (hl : cs.length = 6) (hc : ∀ j, j < 6 → w.cell? ⟨b, o + j, none⟩ = cs[j]?) : ∃ x, ItemAt w b o x := by
  obtain ⟨xs, n, _, rfl, _, hxl, hf⟩ := DataW.trod_struct Try.underlying29 h
  obtain ⟨v0, v1, v2, v3, v4, v5, rfl⟩ : ∃ v0 v1 v2 v3 v4 v5, cs = [v0, v1, v2, v3, v4, v5] := by
    match cs, hl with
    | [v0, v1, v2, v3, v4, v5], _ => exact ⟨v0, v1, v2, v3, v4, v5, rfl⟩
  obtain ⟨x0, x1, x2, x3, x4, x5, rfl⟩ : ∃ x0 x1 x2 x3 x4 x5, xs = [x0, x1, x2, x3, x4, x5] := by
    match xs, hxl with
    | [v0, v1, v2, v3, v4, v5], _ => exact ⟨v0, v1, v2, v3, v4, v5, rfl⟩
  have g0 : DataW.trod enc Try.prog w 0 spare held n 3 ((([v0, v1, v2, v3, v4, v5] : List Value).drop 0).take (Try.prog.cellsOf 3)) = some x0 := hf 0 _ rfl
  rw [Try.cells3] at g0
  have g1 : DataW.trod enc Try.prog w 0 spare held n 27 ((([v0, v1, v2, v3, v4, v5] : List Value).drop 1).take (Try.prog.cellsOf 27)) = some x1 := hf 1 _ rfl
  rw [Try.cells27] at g1
  have g2 : DataW.trod enc Try.prog w 0 spare held n 9 ((([v0, v1, v2, v3, v4, v5] : List Value).drop 2).take (Try.prog.cellsOf 9)) = some x2 := hf 2 _ rfl
  rw [Try.cells9] at g2
  have g3 : DataW.trod enc Try.prog w 0 spare held n 27 ((([v0, v1, v2, v3, v4, v5] : List Value).drop 3).take (Try.prog.cellsOf 27)) = some x3 := hf 3 _ rfl
  rw [Try.cells27] at g3
  have g4 : DataW.trod enc Try.prog w 0 spare held n 27 ((([v0, v1, v2, v3, v4, v5] : List Value).drop 4).take (Try.prog.cellsOf 27)) = some x4 := hf 4 _ rfl
  rw [Try.cells27] at g4
  have g5 : DataW.trod enc Try.prog w 0 spare held n 3 ((([v0, v1, v2, v3, v4, v5] : List Value).drop 5).take (Try.prog.cellsOf 3)) = some x5 := hf 5 _ rfl
  rw [Try.cells3] at g5
  obtain ⟨z0, e0, _, w0⟩ := DataW.trod_int Try.underlying3 g0
  obtain ⟨z1, e1, _, w1⟩ := DataW.trod_int Try.underlying27 g1
  obtain ⟨s2, e2, _, _⟩ := DataW.trod_string Try.underlying9 g2
  obtain ⟨z3, e3, _, w3⟩ := DataW.trod_int Try.underlying27 g3
  obtain ⟨z4, e4, _, w4⟩ := DataW.trod_int Try.underlying27 g4
  obtain ⟨z5, e5, _, w5⟩ := DataW.trod_int Try.underlying3 g5
  simp only [List.drop_succ_cons, List.drop_zero, List.take_succ_cons, List.take_zero, List.cons.injEq, and_true] at e0 e1 e2 e3 e4 e5
  subst e0 e1 e2 e3 e4 e5
  have b1 := wf_u64 w1
  have b3 := wf_u64 w3
  have b4 := wf_u64 w4
  have b0 := wf_i64 w0
  have b5 := wf_i64 w5
  obtain ⟨n1, rfl⟩ : ∃ m : Nat, z1 = (m : Int) := ⟨z1.toNat, by omega⟩
  obtain ⟨n3, rfl⟩ : ∃ m : Nat, z3 = (m : Int) := ⟨z3.toNat, by omega⟩
  obtain ⟨n4, rfl⟩ : ∃ m : Nat, z4 = (m : Int) := ⟨z4.toNat, by omega⟩
  have q1 : n1 < 2 ^ 64 := by omega
  have q3 : n3 < 2 ^ 64 := by omega
  have q4 : n4 < 2 ^ 64 := by omega
  refine ⟨⟨z0, n1, s2, n3, n4, z5⟩, ⟨?_, hc 1 (by omega), hc 2 (by omega), hc 3 (by omega), hc 4 (by omega), hc 5 (by omega), q1, q3, q4, b5.1, b5.2, b0.1, b0.2⟩⟩
  exact hc 0 (by omega)

theorem open_items {v : Value} {d : DataW H} {ps : List MemPlace} (hv : ∃ a len cap, v = .slice a len cap) (h : DataW.Trod enc Try.prog w 0 spare held 22 v d ps) : ∃ L, IsItems w v L := by
  obtain ⟨a0, len0, cap0, rfl⟩ := hv
  obtain ⟨fuel, h⟩ := h
  rcases open_slice Try.underlying22 h with ⟨e, _⟩ | ⟨a, len, cap, m, n, D, Pl, e, _, hl, hm, hmm, _, hall⟩
  · have e' : Value.slice a0 len0 cap0 = .slice none 0 0 := by simpa [Value.cells] using e
    rw [e']
    exact ⟨[], _, _, rfl, Nat.zero_le _, Nat.zero_le _, fun i x h => by simp at h⟩
  · have e' : Value.slice a0 len0 cap0 = .slice (some a) len cap := by simpa [Value.cells] using e
    rw [e']
    cases hz : len with
    | zero => exact ⟨[], _, cap, rfl, Nat.zero_le _, hm, fun i x h => by simp at h⟩
    | succ k =>
      rw [← hz]
      have hlm : len ≤ m := by rw [hmm]; split <;> omega
      obtain ⟨b, o, spot⟩ := a
      have each : ∀ i, i < len → ∃ cs n y, DataW.trod enc Try.prog w 0 spare held n 29 cs = some y ∧ cs.length = 6 ∧ ∀ j, j < 6 → w.cell? (((⟨b, o, spot⟩ : Addr).add (i * 6)).add j) = cs[j]? := by
        intro i hi
        obtain ⟨cs', hcs, ht⟩ := hall i (by omega)
        rw [Try.cells29] at hcs
        obtain ⟨_, h2, h3⟩ := World.cells?_some hcs
        exact ⟨cs', n, _, ht, h2, h3⟩
      have hspot : spot = none := by
        obtain ⟨cs, _, _, _, hl6, hc⟩ := each 0 (by omega)
        have h0 := hc 0 (by omega)
        rw [List.getElem?_eq_getElem (by omega)] at h0
        simpa [Addr.add] using World.cell?_spot h0
      subst hspot
      obtain ⟨L, hL, hP⟩ := list_of (fun i x => ItemAt w b (o + i * 6) x) len (fun i hi => by
        obtain ⟨cs, n, y, ht, hl6, hc⟩ := each i hi
        refine open_item ht hl6 (fun j hj => ?_)
        have := hc j hj
        rw [Addr.add_lit, Addr.add_lit] at this
        exact this)
      exact ⟨L, _, cap, by rw [hL], by omega, hm, fun i x h => ⟨b, o, rfl, hP i x h⟩⟩

theorem Try.laidOut : laidOutB Try.prog = true := by kernel_rfl

theorem Fr.same {W w' : World} (h : Fr no W w') {p : MemPlace} (hp : p.block < W.heap.size) : W.sameAt w' p := by
  cases p with
  | cell b o => exact World.cell?_of_block (w := W) (h.block b hp (fun f => f))
  | map b => exact h.block b hp (fun f => f)

/-- What came in reads as before, behind a call that made new memory alone. -/
theorem trod_after {t : TypeId} (hr : Try.prog.readableRec t = true) (hrow : t < Try.prog.types.size) {W W' : World} {v : Value} {d : DataW H} {ps : List MemPlace} (h : DataW.Trod enc Try.prog W 0 (fun _ => true) true t v d ps) (hf : Fr no W W')
    (hlt : ∀ x ∈ ps, x.block < W.heap.size) {sp : Nat → Bool} (hsp : ∀ x ∈ ps, sp x.block = true) : DataW.Trod enc Try.prog W' 0 sp true t v d ps :=
  WideElems.Trod_stays Try.laidOut hr hrow h (fun x hx => hf.same (hlt x hx)) (fun x hx => hsp x hx)
end
end Go.Proofs.Ytcgkifiijjmaiaa
