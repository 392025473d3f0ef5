/- Whether a list has one of that name: the library's search, with the program's own question. -/
import Derived.Test.YthncdbobjeeeaaaGreatDoorAsk2
namespace Go.Proofs.YthncdbobjeeeaaaGreatDoor
open Go.ChangeShapes Go.WideShapes Go.ChangeAt Go.RowKit

/-- The block q holds y. -/
def BoxFd (w : World) (q : Nat) (y : Fd) : Prop := w.heap[q]? = some (.cells #[.string y.name, .int .i64 y.ty.k, .string y.ty.c, .bool y.vol] 48 (0, 0))

theorem BoxFd.kept {w w' : World} {q : Nat} {y : Fd} (h : BoxFd w q y) (hf : Fr no w w') : BoxFd w' q y := hf.heap h (fun f => f)

theorem nameEqFd_any (w : World) (q : Nat) (y : Fd) (hq : BoxFd w q y) (x : Fd) : Calls Tryz.prog 106 #[.agg #[.string x.name, .int .i64 x.ty.k, .string x.ty.c, .bool x.vol], .pointer (some ⟨q, 0, none⟩)] w fun e w' => e = .returned (.bool (decide (x.name = y.name))) ∧ Fr no w w' := by
  have HF : Hid (Fr no w (w.alloc (.cells #[.string x.name, .int .i64 x.ty.k, .string x.ty.c, .bool x.vol] 48))) := (Fr.refl no w).alloc _ _
  have hq' : (w.alloc (.cells #[.string x.name, .int .i64 x.ty.k, .string x.ty.c, .bool x.vol] 48)).cell? ⟨q, 0, none⟩ = some (.string y.name) := by
    have := hq.kept HF.out
    unfold BoxFd at this
    simp [World.cell?, this]
  have hne : ¬ w.heap.size = q := fun e => by
    have := lt_of_heap hq
    omega
  clear hq
  by_cases h : x.name = y.name
  · rw [decide_eq_true h]
    have hs : (x.name.toList == y.name.toList) = true := by rw [h]; simp
    clear h
    go_enter Tryz.func106, Tryz.ntmps106
    go_wp2_with fail
    go_ret
    exact ⟨by first | rfl | (simp [hs]; done) | (simp at hs; simp [hs]; done), HF.out⟩
  · rw [decide_eq_false h]
    have hs : (x.name.toList == y.name.toList) = false := by
      rw [ByteArray.toList_eq, ByteArray.toList_eq]
      simp only [beq_eq_false_iff_ne, ne_eq]
      intro e
      exact h (ByteArray.ext (by simpa using congrArg List.toArray e))
    go_enter Tryz.func106, Tryz.ntmps106
    go_wp2_with fail
    go_ret
    exact ⟨by first | rfl | (simp [hs]; done), HF.out⟩

set_option maxRecDepth 100000 in
set_option maxHeartbeats 1000000 in
theorem indexFd_any (w : World) (v : Value) (l : List Fd) (h : SlG elFd w v l) (q : Nat) (y : Fd) (hq : BoxFd w q y) :
    Calls Tryz.prog 147 #[v, .func (.func 106) #[] #[.pointer (some ⟨q, 0, none⟩)]] w fun e w' => ∃ z : Int, e = .returned (.int .i64 z) ∧ (decide (0 ≤ z) = l.any fun x => decide (x.name = y.name)) ∧ Fr no w w' := by
  obtain ⟨ad, cp, rfl, hcap, hmx, hit⟩ := h
  unfold maxLen at hmx
  have HI : Hid (∀ (i : Nat) (x : Fd), l[i]? = some x → ∃ b off, ad = some ⟨b, off, none⟩ ∧ ∀ (j : Nat) (u : Value), (elFd.f x)[j]? = some u → w.cell? ⟨b, off + i * 4 + j, none⟩ = some u) := hit
  have HQ : Hid (BoxFd w q y) := hq
  clear hit hq
  go_enter Tryz.func147, Tryz.ntmps147
  go_wp2_with fail
  go_loopw [8] (fun i wr => ∃ (k : Nat), i = .int .i64 (k : Int) ∧ k ≤ l.length ∧ Fr no w wr ∧ ((l.take k).any fun x => decide (x.name = y.name)) = false) (fun i _ => l.length - (intOf i).toNat)
  case atStart => exact ⟨0, rfl, by omega, Fr.refl _ _, by simp⟩
  case round =>
    obtain ⟨k, rfl, hk, hw, hall⟩ := hrel
    have HA : Hid (((l.take k).any fun x => decide (x.name = y.name)) = false) := hall
    clear hall
    by_cases hlt : k < l.length
    · obtain ⟨x, hx⟩ : ∃ x, l[k]? = some x := ⟨_, List.getElem?_eq_getElem hlt⟩
      obtain ⟨b, off, rfl, hc⟩ := HI.out k x hx
      have HX : Hid (l[k]? = some x) := hx
      clear hx
      have hlt' : (k : Int) < (l.length : Int) := by omega
      have c0 : wr.cell? ⟨b, off + k * 4, none⟩ = some (.string x.name) := hw.cell (hc 0 _ rfl) (fun f => f)
      have c1 : wr.cell? ⟨b, off + k * 4 + 1, none⟩ = some (.int .i64 x.ty.k) := hw.cell (hc 1 _ rfl) (fun f => f)
      have c2 : wr.cell? ⟨b, off + k * 4 + 2, none⟩ = some (.string x.ty.c) := hw.cell (hc 2 _ rfl) (fun f => f)
      have c3 : wr.cell? ⟨b, off + k * 4 + 3, none⟩ = some (.bool x.vol) := hw.cell (hc 3 _ rfl) (fun f => f)
      have E := nameEqFd_any wr q y (HQ.out.kept hw) x
      have HW : Hid (Fr no w wr) := hw
      clear hc hw
      by_cases hn : x.name = y.name
      · rw [decide_eq_true hn] at E
        have HT : Hid ((l.any fun x => decide (x.name = y.name)) = true) := List.any_eq_true.2 ⟨x, List.mem_of_getElem? HX.out, decide_eq_true hn⟩
        clear hn
        go_wp2_with fail
        refine E.mono ?_
        rintro e w2 ⟨rfl, f2⟩
        go_wp2_with fail
        go_ret
        refine ⟨_, rfl, ?_, HW.out.new f2 (fun _ _ f => f)⟩
        rw [HT.out]
        simp
      · rw [decide_eq_false hn] at E
        have HT : Hid (((l.take (k + 1)).any fun x => decide (x.name = y.name)) = false) := by
          show _ = _
          rw [take_next l k x HX.out, List.any_append, HA.out]
          simp [hn]
        clear hn
        go_wp2_with fail
        refine E.mono ?_
        rintro e w2 ⟨rfl, f2⟩
        go_wp2_with fail
        go_roundw
        case rel => exact ⟨k + 1, by go_num, by omega, HW.out.new f2 (fun _ _ f => f), HT.out⟩
        case measure => simp [intOf]; omega
    · have hkl : k = l.length := by omega
      subst hkl
      have HT : Hid ((l.any fun x => decide (x.name = y.name)) = false) := by
        have := HA.out
        rwa [List.take_length] at this
      go_wp2_with fail
      go_ret
      refine ⟨_, rfl, ?_, hw⟩
      rw [HT.out]
      rfl

theorem containsFd_any (w : World) (v : Value) (l : List Fd) (h : SlG elFd w v l) (q : Nat) (y : Fd) (hq : BoxFd w q y) :
    Calls Tryz.prog 105 #[v, .func (.func 106) #[] #[.pointer (some ⟨q, 0, none⟩)]] w fun e w' => e = .returned (.bool (l.any fun x => decide (x.name = y.name))) ∧ Fr no w w' := by
  go_enter Tryz.func105, Tryz.ntmps105
  go_wp2_with fail
  refine (indexFd_any w v l h q y hq).mono ?_
  rintro e w1 ⟨z, rfl, hz, f1⟩
  have HZ : Hid (decide (0 ≤ z) = l.any fun x => decide (x.name = y.name)) := hz
  clear hz
  go_wp2_with fail
  go_ret
  rw [← HZ.out]
  exact ⟨rfl, f1⟩

/-- The block q holds y. -/
def BoxMs (w : World) (q : Nat) (y : Ms) : Prop := w.heap[q]? = some (.cells #[.string y.name, .slice y.p.a y.p.n y.p.c, .int .i64 y.ret.k, .string y.ret.c, .int .i64 y.lo, .int .i64 y.st, .slice y.c.a y.c.n y.c.c, .slice y.h.a y.h.n y.h.c] 53 (0, 0))

theorem BoxMs.kept {w w' : World} {q : Nat} {y : Ms} (h : BoxMs w q y) (hf : Fr no w w') : BoxMs w' q y := hf.heap h (fun f => f)

theorem nameEqMs_any (w : World) (q : Nat) (y : Ms) (hq : BoxMs w q y) (x : Ms) : Calls Tryz.prog 110 #[.agg #[.string x.name, .slice x.p.a x.p.n x.p.c, .int .i64 x.ret.k, .string x.ret.c, .int .i64 x.lo, .int .i64 x.st, .slice x.c.a x.c.n x.c.c, .slice x.h.a x.h.n x.h.c], .pointer (some ⟨q, 0, none⟩)] w fun e w' => e = .returned (.bool (decide (x.name = y.name))) ∧ Fr no w w' := by
  have HF : Hid (Fr no w (w.alloc (.cells #[.string x.name, .slice x.p.a x.p.n x.p.c, .int .i64 x.ret.k, .string x.ret.c, .int .i64 x.lo, .int .i64 x.st, .slice x.c.a x.c.n x.c.c, .slice x.h.a x.h.n x.h.c] 53))) := (Fr.refl no w).alloc _ _
  have hq' : (w.alloc (.cells #[.string x.name, .slice x.p.a x.p.n x.p.c, .int .i64 x.ret.k, .string x.ret.c, .int .i64 x.lo, .int .i64 x.st, .slice x.c.a x.c.n x.c.c, .slice x.h.a x.h.n x.h.c] 53)).cell? ⟨q, 0, none⟩ = some (.string y.name) := by
    have := hq.kept HF.out
    unfold BoxMs at this
    simp [World.cell?, this]
  have hne : ¬ w.heap.size = q := fun e => by
    have := lt_of_heap hq
    omega
  clear hq
  by_cases h : x.name = y.name
  · rw [decide_eq_true h]
    have hs : (x.name.toList == y.name.toList) = true := by rw [h]; simp
    clear h
    go_enter Tryz.func110, Tryz.ntmps110
    go_wp2_with fail
    go_ret
    exact ⟨by first | rfl | (simp [hs]; done) | (simp at hs; simp [hs]; done), HF.out⟩
  · rw [decide_eq_false h]
    have hs : (x.name.toList == y.name.toList) = false := by
      rw [ByteArray.toList_eq, ByteArray.toList_eq]
      simp only [beq_eq_false_iff_ne, ne_eq]
      intro e
      exact h (ByteArray.ext (by simpa using congrArg List.toArray e))
    go_enter Tryz.func110, Tryz.ntmps110
    go_wp2_with fail
    go_ret
    exact ⟨by first | rfl | (simp [hs]; done), HF.out⟩

set_option maxRecDepth 100000 in
set_option maxHeartbeats 1000000 in
theorem indexMs_any (w : World) (v : Value) (l : List Ms) (h : SlG elMs w v l) (q : Nat) (y : Ms) (hq : BoxMs w q y) :
    Calls Tryz.prog 148 #[v, .func (.func 110) #[] #[.pointer (some ⟨q, 0, none⟩)]] w fun e w' => ∃ z : Int, e = .returned (.int .i64 z) ∧ (decide (0 ≤ z) = l.any fun x => decide (x.name = y.name)) ∧ Fr no w w' := by
  obtain ⟨ad, cp, rfl, hcap, hmx, hit⟩ := h
  unfold maxLen at hmx
  have HI : Hid (∀ (i : Nat) (x : Ms), l[i]? = some x → ∃ b off, ad = some ⟨b, off, none⟩ ∧ ∀ (j : Nat) (u : Value), (elMs.f x)[j]? = some u → w.cell? ⟨b, off + i * 8 + j, none⟩ = some u) := hit
  have HQ : Hid (BoxMs w q y) := hq
  clear hit hq
  go_enter Tryz.func148, Tryz.ntmps148
  go_wp2_with fail
  go_loopw [8] (fun i wr => ∃ (k : Nat), i = .int .i64 (k : Int) ∧ k ≤ l.length ∧ Fr no w wr ∧ ((l.take k).any fun x => decide (x.name = y.name)) = false) (fun i _ => l.length - (intOf i).toNat)
  case atStart => exact ⟨0, rfl, by omega, Fr.refl _ _, by simp⟩
  case round =>
    obtain ⟨k, rfl, hk, hw, hall⟩ := hrel
    have HA : Hid (((l.take k).any fun x => decide (x.name = y.name)) = false) := hall
    clear hall
    by_cases hlt : k < l.length
    · obtain ⟨x, hx⟩ : ∃ x, l[k]? = some x := ⟨_, List.getElem?_eq_getElem hlt⟩
      obtain ⟨b, off, rfl, hc⟩ := HI.out k x hx
      have HX : Hid (l[k]? = some x) := hx
      clear hx
      have hlt' : (k : Int) < (l.length : Int) := by omega
      have c0 : wr.cell? ⟨b, off + k * 8, none⟩ = some (.string x.name) := hw.cell (hc 0 _ rfl) (fun f => f)
      have c1 : wr.cell? ⟨b, off + k * 8 + 1, none⟩ = some (.slice x.p.a x.p.n x.p.c) := hw.cell (hc 1 _ rfl) (fun f => f)
      have c2 : wr.cell? ⟨b, off + k * 8 + 2, none⟩ = some (.int .i64 x.ret.k) := hw.cell (hc 2 _ rfl) (fun f => f)
      have c3 : wr.cell? ⟨b, off + k * 8 + 3, none⟩ = some (.string x.ret.c) := hw.cell (hc 3 _ rfl) (fun f => f)
      have c4 : wr.cell? ⟨b, off + k * 8 + 4, none⟩ = some (.int .i64 x.lo) := hw.cell (hc 4 _ rfl) (fun f => f)
      have c5 : wr.cell? ⟨b, off + k * 8 + 5, none⟩ = some (.int .i64 x.st) := hw.cell (hc 5 _ rfl) (fun f => f)
      have c6 : wr.cell? ⟨b, off + k * 8 + 6, none⟩ = some (.slice x.c.a x.c.n x.c.c) := hw.cell (hc 6 _ rfl) (fun f => f)
      have c7 : wr.cell? ⟨b, off + k * 8 + 7, none⟩ = some (.slice x.h.a x.h.n x.h.c) := hw.cell (hc 7 _ rfl) (fun f => f)
      have E := nameEqMs_any wr q y (HQ.out.kept hw) x
      have HW : Hid (Fr no w wr) := hw
      clear hc hw
      by_cases hn : x.name = y.name
      · rw [decide_eq_true hn] at E
        have HT : Hid ((l.any fun x => decide (x.name = y.name)) = true) := List.any_eq_true.2 ⟨x, List.mem_of_getElem? HX.out, decide_eq_true hn⟩
        clear hn
        go_wp2_with fail
        refine E.mono ?_
        rintro e w2 ⟨rfl, f2⟩
        go_wp2_with fail
        go_ret
        refine ⟨_, rfl, ?_, HW.out.new f2 (fun _ _ f => f)⟩
        rw [HT.out]
        simp
      · rw [decide_eq_false hn] at E
        have HT : Hid (((l.take (k + 1)).any fun x => decide (x.name = y.name)) = false) := by
          show _ = _
          rw [take_next l k x HX.out, List.any_append, HA.out]
          simp [hn]
        clear hn
        go_wp2_with fail
        refine E.mono ?_
        rintro e w2 ⟨rfl, f2⟩
        go_wp2_with fail
        go_roundw
        case rel => exact ⟨k + 1, by go_num, by omega, HW.out.new f2 (fun _ _ f => f), HT.out⟩
        case measure => simp [intOf]; omega
    · have hkl : k = l.length := by omega
      subst hkl
      have HT : Hid ((l.any fun x => decide (x.name = y.name)) = false) := by
        have := HA.out
        rwa [List.take_length] at this
      go_wp2_with fail
      go_ret
      refine ⟨_, rfl, ?_, hw⟩
      rw [HT.out]
      rfl

theorem containsMs_any (w : World) (v : Value) (l : List Ms) (h : SlG elMs w v l) (q : Nat) (y : Ms) (hq : BoxMs w q y) :
    Calls Tryz.prog 109 #[v, .func (.func 110) #[] #[.pointer (some ⟨q, 0, none⟩)]] w fun e w' => e = .returned (.bool (l.any fun x => decide (x.name = y.name))) ∧ Fr no w w' := by
  go_enter Tryz.func109, Tryz.ntmps109
  go_wp2_with fail
  refine (indexMs_any w v l h q y hq).mono ?_
  rintro e w1 ⟨z, rfl, hz, f1⟩
  have HZ : Hid (decide (0 ≤ z) = l.any fun x => decide (x.name = y.name)) := hz
  clear hz
  go_wp2_with fail
  go_ret
  rw [← HZ.out]
  exact ⟨rfl, f1⟩
end Go.Proofs.YthncdbobjeeeaaaGreatDoor
