/- A builder of a text: its own check, a byte, a text. -/
import Derived.Test.YtmpahllkbpofnaaSh
import Derived.Test.YtmpahllkbpofnaaMem
import Derived.Lib.Builder
import Derived.Lib.AppendStr
import Derived.Lib.UnsafeStr
import Derived.Laws.Externs
namespace Go.Proofs.Ytmpahllkbpofnaa
open Go.ChangeShapes Go.WideShapes Go.ChangeAt Go.RowKit

abbrev BuU (B b : Nat) (bs : List Value) (w : World) : Prop := Lib.BuilderAt 58 5 B b (.pointer (some ⟨b, 0, none⟩)) bs w
abbrev Bu (B b : Nat) (bs : List Value) (w : World) : Prop := Lib.IsBuilder 58 5 B b bs w

/-- Blocks of other kinds than a builder, or its bytes, stay. -/
def Kp (w w' : World) : Prop := ∀ (k : Nat) (cs : Array Value) (t : TypeId) (f : Nat × Nat), w.heap[k]? = some (Obj.cells cs t f) → t ≠ 58 → t ≠ 5 → w'.heap[k]? = some (Obj.cells cs t f)
theorem Kp.refl (w : World) : Kp w w := fun _ _ _ _ h _ _ => h
theorem Kp.trans {a b c : World} (h : Kp a b) (k : Kp b c) : Kp a c := fun i cs t f e h1 h2 => k i cs t f (h i cs t f e h1 h2) h1 h2
theorem Kp.alloc {a w : World} (h : Kp a w) (o : Obj) : Kp a (w.alloc o) := fun i cs t f e h1 h2 => by
  have e2 := h i cs t f e h1 h2
  rw [Lib.alloc_old w o i (lt_of_heap e2)]
  exact e2
theorem Kp.set {a w : World} (h : Kp a w) {b : Nat} {x : Array Value} (hb : w.heap[b]? = some (.cells x 58 (0, 0))) (o : Nat) (u : Value) : Kp a (w.setCell ⟨b, o, none⟩ u) := fun i cs t f e h1 h2 => by
  have e2 := h i cs t f e h1 h2
  have hne : b ≠ i := fun e3 => by
    subst e3
    rw [hb] at e2
    simp only [Option.some.injEq, Obj.cells.injEq] at e2
    exact h1 e2.2.1.symm
  rw [Below.heap_setCell w _ u i (fun e3 => hne e3.symm)]
  exact e2
theorem Kp.grown {a w w' : World} (h : Kp a w) {row : Option Nat} (g : w.grownBy w' row) (hr : ∀ k, row = some k → ∃ cur, w.heap[k]? = some (.cells cur 5 (0, 0))) : Kp a w' := fun i cs t f e h1 h2 => by
  have e2 := h i cs t f e h1 h2
  rw [g.block i (lt_of_heap e2) (fun e3 => by
    obtain ⟨cur, hc⟩ := hr i e3.symm
    rw [hc] at e2
    simp only [Option.some.injEq, Obj.cells.injEq] at e2
    exact h2 e2.2.1.symm)]
  exact e2
theorem own_row {B : Nat} {v : Value} {n : Nat} {xs : List Value} {w : World} (h : w.ownsRow B 5 1 v n xs) : ∀ k, v.ownBlock = some k → ∃ cur, w.heap[k]? = some (.cells cur 5 (0, 0)) := by
  intro k hk
  rcases h.2 with ⟨rfl, _⟩ | ⟨g, cap, cur, rfl, _, hg, _⟩
  · simp [Value.ownBlock] at hk
  · simp only [Value.ownBlock, Option.some.injEq] at hk
    subst hk
    exact ⟨cur, hg⟩

set_option maxRecDepth 100000 in
theorem check_any (B b : Nat) (bs : List Value) (w : World) (h : Bu B b bs w) :
    Calls Try.prog 43 #[.pointer (some ⟨b, 0, none⟩)] w fun e w' => e = .returned (.tuple #[]) ∧ BuU B b bs w' ∧ Below B w w' ∧ Kp w w' := by
  obtain ⟨j, hj, hjs⟩ := Option.map_eq_some_iff.1 Try.Builder_Extra_169.sizeBuilder
  have hj' : Try.prog.info? 58 = some j := hj
  clear hj
  rcases h with h | h
  · have h0 := h.cell0
    have hsh := h.shape
    have hfz := h.frozen0
    have HH : Hid (Lib.BuilderAt 58 5 B b (.pointer none) bs w) := h
    clear h
    go_enter Try.func43, Try.ntmps43
    go_wp2_with fail
    rw [Lib.run_to_unsafe w ⟨b, 0, none⟩ Try.underlying56 Try.underlying72 hj' (by rw [hjs]; decide) hsh (Nat.zero_lt_succ 1)]
    simp only [Result.andThen]
    rw [Oper.upon_value]
    go_wp2_with fail
    rw [run_callFunc_extern Try.func46 (by kernel_rfl) (by kernel_rfl) (by kernel_rfl) (e := Extern.AbiNoEscape.same) (by kernel_rfl)]
    rw [Lib.run_noEscape]
    simp only [Result.andThen]
    rw [Oper.upon_value]
    go_wp2_with fail
    rw [Lib.run_from_unsafe w ⟨b, 0, none⟩ Try.underlying72 Try.underlying56 hj' hsh Try.Builder_Extra_169.liesBuilder]
    simp only [Result.andThen]
    rw [Oper.upon_value]
    go_wp2_with fail
    go_end0
    obtain ⟨hB, v, hb, _, _⟩ := id HH.out
    exact ⟨rfl, Lib.BuilderAt.used HH.out _, (Below.refl B w).setCell (p := ⟨b, 0, none⟩) hB _, (Kp.refl w).set hb 0 _⟩
  · have h0 := h.cell0
    have HH : Hid _ := h
    clear h
    go_enter Try.func43, Try.ntmps43
    go_wp2_with fail
    rw [Lib.run_neq_ptr_same w _ Try.underlying56 hj']
    go_wp2_with fail
    go_end0
    exact ⟨rfl, HH.out, Below.refl B _, Kp.refl _⟩

/-- What a walk needs of a builder. -/
theorem bu_open {B b : Nat} {bs : List Value} {w : World} (h : BuU B b bs w) : B ≤ b ∧ b < w.heap.size ∧ ∃ ao cap, w.heap[b]? = some (.cells #[.pointer (some ⟨b, 0, none⟩), .slice ao bs.length cap] 58 (0, 0)) ∧ w.ownsRow B 5 1 (.slice ao bs.length cap) bs.length bs ∧ (Value.slice ao bs.length cap).ownBlock ≠ some b := by
  have hlt := h.lt
  obtain ⟨hB, v, hb, ho, hne⟩ := h
  refine ⟨hB, hlt, ?_⟩
  rcases ho.2 with ⟨hv, h0⟩ | ⟨g, cap, cur, hv, _⟩
  · refine ⟨none, 0, ?_⟩
    have hv' : v = .slice none bs.length 0 := by rw [hv, h0]
    rw [← hv']
    exact ⟨hb, ho, hne⟩
  · refine ⟨some ⟨g, 0, none⟩, cap, ?_⟩
    rw [← hv]
    exact ⟨hb, ho, hne⟩

theorem byte_info : ∃ i0, Try.prog.info? 5 = some i0 ∧ i0.zero = some (.int .u8 0) ∧ i0.size = 1 ∧ i0.bytes = 1 := by
  obtain ⟨i0, h, h1, h2, h3⟩ := info_parts (P := Try.prog) (e := 5) (z := .int .u8 0) (size := 1) (bytes := 1) (by kernel_rfl)
  exact ⟨i0, h, h1, h2, h3⟩

set_option maxRecDepth 100000 in
theorem wrByte (B b : Nat) (bs : List Value) (c : Int) (w : World) (h : Bu B b bs w) (hlen : bs.length + 1 ≤ 1000000000) (hBw : B ≤ w.heap.size) :
    Calls Try.prog 33 #[.pointer (some ⟨b, 0, none⟩), .int .u8 c] w fun e w' => e = .returned .nilIface ∧ BuU B b (bs ++ [.int .u8 c]) w' ∧ Below B w w' ∧ Kp w w' := by
  obtain ⟨i0, hi, hz0, hz1, hz2⟩ := byte_info
  have CK := check_any B b bs w h
  go_enter Try.func33, Try.ntmps33
  go_wp2_with fail
  refine CK.mono ?_
  rintro _ w1 ⟨rfl, h1, hb1, hk1⟩
  obtain ⟨hB, hlt, ao, cap, hbk, hown, hne⟩ := bu_open h1
  have HS : Hid (B ≤ w1.heap.size ∧ Below B w w1 ∧ Kp w w1) := ⟨Nat.le_trans hBw hb1.size, hb1, hk1⟩
  clear h1 hb1 hk1
  have c1 : w1.cell? ⟨b, 1, none⟩ = some (.slice ao bs.length cap) := by rw [Lib.cell_of_heap hbk]; rfl
  go_wp2_with (at_builtin; refine wpList_append_own _ rfl _ _ 40 rfl B 5 i0 (.int .u8 0) 1 1 Try.underlying40 hi hz0 hz1 hz2 rfl (by decide) _ _ _ rfl (hown.alloc _) ⟨w1.heap.size, 0, none⟩ 1 1 [.int .u8 c] rfl rfl ?c1 ?c2 ?c3 ?c4 ?c5 ?_)
  case c1 =>
    intro j u hj
    match j, hj with
    | 0, hj => simp at hj; subst hj; simp [Addr.add]
  case c2 => intro u hu; simp at hu; subst hu; rfl
  case c3 => unfold maxLen; omega
  case c4 => omega
  case c5 => have := HS.out.1; simp; omega
  intro v' w2 hown' hgrow _
  obtain ⟨ao2, n2, cap2, rfl⟩ : ∃ ao2 n2 cap2, v' = .slice ao2 n2 cap2 := by
    rcases hown'.2 with ⟨hv, _⟩ | ⟨g, cap, cur, hv, _⟩
    · exact ⟨_, _, _, hv⟩
    · exact ⟨_, _, _, hv⟩
  have hb2 : w2.heap[b]? = some (.cells #[.pointer (some ⟨b, 0, none⟩), .slice ao bs.length cap] 58 (0, 0)) := by
    rw [hgrow.block b (by simp; omega) (fun e => hne e.symm), Lib.alloc_old w1 _ b hlt]
    exact hbk
  have f1 : w2.frozen? ⟨b, 1, none⟩ = false := Lib.frozen_of_heap hb2 1
  have d1 : w2.cell? ⟨b, 1, none⟩ = some (.slice ao bs.length cap) := by rw [Lib.cell_of_heap hb2]; rfl
  have HE : Hid (BuU B b (bs ++ [.int .u8 c]) (w2.setCell ⟨b, 1, none⟩ (.slice ao2 n2 cap2)) ∧ Below B w (w2.setCell ⟨b, 1, none⟩ (.slice ao2 n2 cap2)) ∧ Kp w (w2.setCell ⟨b, 1, none⟩ (.slice ao2 n2 cap2))) := by
    refine ⟨Lib.BuilderAt.put (T := 58) (e := 5) hB hb2 (bs' := bs ++ [.int .u8 c]) (by simpa using hown') (by decide), ?_, ?_⟩
    · exact ((HS.out.2.1.alloc HS.out.1 _).grown hgrow (by have := HS.out.1; simp; omega) (fun k hk => (hown.lt k hk).1)).setCell (p := ⟨b, 1, none⟩) hB _
    · exact ((HS.out.2.2.alloc _).grown hgrow (own_row (hown.alloc _))).set hb2 1 _
  clear hown' hgrow hown hbk hb2 c1 hne
  go_wp2_with fail
  go_ret
  exact ⟨rfl, HE.out⟩

set_option maxRecDepth 100000 in
theorem wrText (B b : Nat) (bs : List Value) (s : ByteArray) (w : World) (h : Bu B b bs w) (hlen : bs.length + s.size ≤ 1000000000) (hBw : B ≤ w.heap.size) :
    Calls Try.prog 34 #[.pointer (some ⟨b, 0, none⟩), .string s] w fun e w' => e = .returned (.tuple #[.int .i64 s.size, .nilIface]) ∧ BuU B b (bs ++ Lib.strCells s) w' ∧ Below B w w' ∧ Kp w w' := by
  obtain ⟨i0, hi, hz0, hz1, hz2⟩ := byte_info
  have CK := check_any B b bs w h
  go_enter Try.func34, Try.ntmps34
  go_wp2_with fail
  refine CK.mono ?_
  rintro _ w1 ⟨rfl, h1, hb1, hk1⟩
  obtain ⟨hB, hlt, ao, cap, hbk, hown, hne⟩ := bu_open h1
  have HS : Hid (B ≤ w1.heap.size ∧ Below B w w1 ∧ Kp w w1) := ⟨Nat.le_trans hBw hb1.size, hb1, hk1⟩
  clear h1 hb1 hk1
  have c1 : w1.cell? ⟨b, 1, none⟩ = some (.slice ao bs.length cap) := by rw [Lib.cell_of_heap hbk]; rfl
  go_wp2_with (at_builtin; refine Lib.wpList_append_own_string _ rfl _ _ 40 9 rfl B 5 i0 Try.underlying40 Try.underlying9 hi hz0 hz1 hz2 _ _ _ rfl hown s rfl ?c3 ?c4 ?c5 ?_)
  case c3 => unfold maxLen; omega
  case c4 => omega
  case c5 => exact HS.out.1
  intro v' w2 hown' hgrow _
  obtain ⟨ao2, n2, cap2, rfl⟩ : ∃ ao2 n2 cap2, v' = .slice ao2 n2 cap2 := by
    rcases hown'.2 with ⟨hv, _⟩ | ⟨g, cap, cur, hv, _⟩
    · exact ⟨_, _, _, hv⟩
    · exact ⟨_, _, _, hv⟩
  have hb2 : w2.heap[b]? = some (.cells #[.pointer (some ⟨b, 0, none⟩), .slice ao bs.length cap] 58 (0, 0)) := by
    rw [hgrow.block b hlt (fun e => hne e.symm)]
    exact hbk
  have f1 : w2.frozen? ⟨b, 1, none⟩ = false := Lib.frozen_of_heap hb2 1
  have d1 : w2.cell? ⟨b, 1, none⟩ = some (.slice ao bs.length cap) := by rw [Lib.cell_of_heap hb2]; rfl
  have HE : Hid (BuU B b (bs ++ Lib.strCells s) (w2.setCell ⟨b, 1, none⟩ (.slice ao2 n2 cap2)) ∧ Below B w (w2.setCell ⟨b, 1, none⟩ (.slice ao2 n2 cap2)) ∧ Kp w (w2.setCell ⟨b, 1, none⟩ (.slice ao2 n2 cap2))) := by
    refine ⟨Lib.BuilderAt.put (T := 58) (e := 5) hB hb2 (bs' := bs ++ Lib.strCells s) (by simpa [Lib.strCells_length] using hown') (by decide), ?_, ?_⟩
    · exact (HS.out.2.1.grown hgrow HS.out.1 (fun k hk => (hown.lt k hk).1)).setCell (p := ⟨b, 1, none⟩) hB _
    · exact (HS.out.2.2.grown hgrow (own_row hown)).set hb2 1 _
  clear hown' hgrow hown hbk hb2 c1 hne
  go_wp2_with fail
  go_ret2
  exact ⟨rfl, HE.out⟩
end Go.Proofs.Ytmpahllkbpofnaa
