/- Whether a list has one of that name. -/
import Derived.Test.YtpfkigoffllieaaGreatDoorJab
namespace Go.Proofs.YtpfkigoffllieaaGreatDoor
open Go.ChangeShapes Go.WideShapes Go.ChangeAt Go.RowKit

/-- The block q holds y. -/
def BoxFd (w : World) (q : Nat) (y : Fd) : Prop := w.heap[q]? = some (.cells #[.string y.name, .int .i64 y.ty.k, .string y.ty.c, .bool y.vol] 100 (0, 0))

theorem BoxFd.kept {w w' : World} {q : Nat} {y : Fd} (h : BoxFd w q y) (hf : Fr no w w') : BoxFd w' q y := hf.heap h (fun f => f)

theorem nameEqFd_any (w : World) (q : Nat) (y : Fd) (hq : BoxFd w q y) (x : Fd) : Calls Tryz.prog 70 #[.agg #[.string x.name, .int .i64 x.ty.k, .string x.ty.c, .bool x.vol], .pointer (some ⟨q, 0, none⟩)] w fun e w' => e = .returned (.bool (decide (x.name = y.name))) ∧ Fr no w w' := by
  have HF : Hid (Fr no w (w.alloc (.cells #[.string x.name, .int .i64 x.ty.k, .string x.ty.c, .bool x.vol] 100))) := (Fr.refl no w).alloc _ _
  have hq' : (w.alloc (.cells #[.string x.name, .int .i64 x.ty.k, .string x.ty.c, .bool x.vol] 100)).cell? ⟨q, 0, none⟩ = some (.string y.name) := by
    have := hq.kept HF.out
    unfold BoxFd at this
    simp [World.cell?, this]
  have hne : ¬ w.heap.size = q := fun e => by
    have := lt_of_heap hq
    omega
  clear hq
  by_cases h : x.name = y.name
  · rw [decide_eq_true h]
    have hs : (x.name.toList == y.name.toList) = true := by rw [h]; simp
    clear h
    go_enter Tryz.func70, Tryz.ntmps70
    go_wp2_with fail
    go_ret
    exact ⟨by first | rfl | (simp [hs]; done) | (simp at hs; simp [hs]; done), HF.out⟩
  · rw [decide_eq_false h]
    have hs : (x.name.toList == y.name.toList) = false := by
      rw [ByteArray.toList_eq, ByteArray.toList_eq]
      simp only [beq_eq_false_iff_ne, ne_eq]
      intro e
      exact h (ByteArray.ext (by simpa using congrArg List.toArray e))
    go_enter Tryz.func70, Tryz.ntmps70
    go_wp2_with fail
    go_ret
    exact ⟨by first | rfl | (simp [hs]; done), HF.out⟩

set_option maxRecDepth 100000 in
set_option maxHeartbeats 1000000 in
theorem indexFd_any (w : World) (v : Value) (l : List Fd) (h : SlG elFd w v l) (q : Nat) (y : Fd) (hq : BoxFd w q y) :
    Calls Tryz.prog 107 #[v, .func (.func 70) #[] #[.pointer (some ⟨q, 0, none⟩)]] w fun e w' => ∃ z : Int, e = .returned (.int .i64 z) ∧ (decide (0 ≤ z) = l.any fun x => decide (x.name = y.name)) ∧ Fr no w w' := by
  obtain ⟨ad, cp, rfl, hcap, hmx, hit⟩ := h
  unfold maxLen at hmx
  have HI : Hid (∀ (i : Nat) (x : Fd), l[i]? = some x → ∃ b off, ad = some ⟨b, off, none⟩ ∧ ∀ (j : Nat) (u : Value), (elFd.f x)[j]? = some u → w.cell? ⟨b, off + i * 4 + j, none⟩ = some u) := hit
  have HQ : Hid (BoxFd w q y) := hq
  clear hit hq
  go_enter Tryz.func107, Tryz.ntmps107
  go_wp2_with fail
  go_loopw [8] (fun i wr => ∃ (k : Nat), i = .int .i64 (k : Int) ∧ k ≤ l.length ∧ Fr no w wr ∧ ((l.take k).any fun x => decide (x.name = y.name)) = false) (fun i _ => l.length - (intOf i).toNat)
  case atStart => exact ⟨0, rfl, by omega, Fr.refl _ _, by simp⟩
  case round =>
    obtain ⟨k, rfl, hk, hw, hall⟩ := hrel
    have HA : Hid (((l.take k).any fun x => decide (x.name = y.name)) = false) := hall
    clear hall
    by_cases hlt : k < l.length
    · obtain ⟨x, hx⟩ : ∃ x, l[k]? = some x := ⟨_, List.getElem?_eq_getElem hlt⟩
      obtain ⟨b, off, rfl, hc⟩ := HI.out k x hx
      have HX : Hid (l[k]? = some x) := hx
      clear hx
      have hlt' : (k : Int) < (l.length : Int) := by omega
      have c0 : wr.cell? ⟨b, off + k * 4, none⟩ = some (.string x.name) := hw.cell (hc 0 _ rfl) (fun f => f)
      have c1 : wr.cell? ⟨b, off + k * 4 + 1, none⟩ = some (.int .i64 x.ty.k) := hw.cell (hc 1 _ rfl) (fun f => f)
      have c2 : wr.cell? ⟨b, off + k * 4 + 2, none⟩ = some (.string x.ty.c) := hw.cell (hc 2 _ rfl) (fun f => f)
      have c3 : wr.cell? ⟨b, off + k * 4 + 3, none⟩ = some (.bool x.vol) := hw.cell (hc 3 _ rfl) (fun f => f)
      have E := nameEqFd_any wr q y (HQ.out.kept hw) x
      have HW : Hid (Fr no w wr) := hw
      clear hc hw
      by_cases hn : x.name = y.name
      · rw [decide_eq_true hn] at E
        have HT : Hid ((l.any fun x => decide (x.name = y.name)) = true) := List.any_eq_true.2 ⟨x, List.mem_of_getElem? HX.out, decide_eq_true hn⟩
        clear hn
        go_wp2_with fail
        refine E.mono ?_
        rintro e w2 ⟨rfl, f2⟩
        go_wp2_with fail
        go_ret
        refine ⟨_, rfl, ?_, HW.out.new f2 (fun _ _ f => f)⟩
        rw [HT.out]
        simp
      · rw [decide_eq_false hn] at E
        have HT : Hid (((l.take (k + 1)).any fun x => decide (x.name = y.name)) = false) := by
          show _ = _
          rw [take_next l k x HX.out, List.any_append, HA.out]
          simp [hn]
        clear hn
        go_wp2_with fail
        refine E.mono ?_
        rintro e w2 ⟨rfl, f2⟩
        go_wp2_with fail
        go_roundw
        case rel => exact ⟨k + 1, by go_num, by omega, HW.out.new f2 (fun _ _ f => f), HT.out⟩
        case measure => simp [intOf]; omega
    · have hkl : k = l.length := by omega
      subst hkl
      have HT : Hid ((l.any fun x => decide (x.name = y.name)) = false) := by
        have := HA.out
        rwa [List.take_length] at this
      go_wp2_with fail
      go_ret
      refine ⟨_, rfl, ?_, hw⟩
      rw [HT.out]
      rfl

theorem containsFd_any (w : World) (v : Value) (l : List Fd) (h : SlG elFd w v l) (q : Nat) (y : Fd) (hq : BoxFd w q y) :
    Calls Tryz.prog 69 #[v, .func (.func 70) #[] #[.pointer (some ⟨q, 0, none⟩)]] w fun e w' => e = .returned (.bool (l.any fun x => decide (x.name = y.name))) ∧ Fr no w w' := by
  go_enter Tryz.func69, Tryz.ntmps69
  go_wp2_with fail
  refine (indexFd_any w v l h q y hq).mono ?_
  rintro e w1 ⟨z, rfl, hz, f1⟩
  have HZ : Hid (decide (0 ≤ z) = l.any fun x => decide (x.name = y.name)) := hz
  clear hz
  go_wp2_with fail
  go_ret
  rw [← HZ.out]
  exact ⟨rfl, f1⟩

/-- The block q holds y. -/
def BoxMs (w : World) (q : Nat) (y : Ms) : Prop := w.heap[q]? = some (.cells #[.string y.name, .slice y.p.a y.p.n y.p.c, .int .i64 y.ret.k, .string y.ret.c, .int .i64 y.lo, .int .i64 y.st, .slice y.c.a y.c.n y.c.c, .slice y.h.a y.h.n y.h.c] 64 (0, 0))

theorem BoxMs.kept {w w' : World} {q : Nat} {y : Ms} (h : BoxMs w q y) (hf : Fr no w w') : BoxMs w' q y := hf.heap h (fun f => f)

theorem nameEqMs_any (w : World) (q : Nat) (y : Ms) (hq : BoxMs w q y) (x : Ms) : Calls Tryz.prog 74 #[.agg #[.string x.name, .slice x.p.a x.p.n x.p.c, .int .i64 x.ret.k, .string x.ret.c, .int .i64 x.lo, .int .i64 x.st, .slice x.c.a x.c.n x.c.c, .slice x.h.a x.h.n x.h.c], .pointer (some ⟨q, 0, none⟩)] w fun e w' => e = .returned (.bool (decide (x.name = y.name))) ∧ Fr no w w' := by
  have HF : Hid (Fr no w (w.alloc (.cells #[.string x.name, .slice x.p.a x.p.n x.p.c, .int .i64 x.ret.k, .string x.ret.c, .int .i64 x.lo, .int .i64 x.st, .slice x.c.a x.c.n x.c.c, .slice x.h.a x.h.n x.h.c] 64))) := (Fr.refl no w).alloc _ _
  have hq' : (w.alloc (.cells #[.string x.name, .slice x.p.a x.p.n x.p.c, .int .i64 x.ret.k, .string x.ret.c, .int .i64 x.lo, .int .i64 x.st, .slice x.c.a x.c.n x.c.c, .slice x.h.a x.h.n x.h.c] 64)).cell? ⟨q, 0, none⟩ = some (.string y.name) := by
    have := hq.kept HF.out
    unfold BoxMs at this
    simp [World.cell?, this]
  have hne : ¬ w.heap.size = q := fun e => by
    have := lt_of_heap hq
    omega
  clear hq
  by_cases h : x.name = y.name
  · rw [decide_eq_true h]
    have hs : (x.name.toList == y.name.toList) = true := by rw [h]; simp
    clear h
    go_enter Tryz.func74, Tryz.ntmps74
    go_wp2_with fail
    go_ret
    exact ⟨by first | rfl | (simp [hs]; done) | (simp at hs; simp [hs]; done), HF.out⟩
  · rw [decide_eq_false h]
    have hs : (x.name.toList == y.name.toList) = false := by
      rw [ByteArray.toList_eq, ByteArray.toList_eq]
      simp only [beq_eq_false_iff_ne, ne_eq]
      intro e
      exact h (ByteArray.ext (by simpa using congrArg List.toArray e))
    go_enter Tryz.func74, Tryz.ntmps74
    go_wp2_with fail
    go_ret
    exact ⟨by first | rfl | (simp [hs]; done), HF.out⟩

set_option maxRecDepth 100000 in
set_option maxHeartbeats 1000000 in
theorem indexMs_any (w : World) (v : Value) (l : List Ms) (h : SlG elMs w v l) (q : Nat) (y : Ms) (hq : BoxMs w q y) :
    Calls Tryz.prog 31 #[v, .func (.func 74) #[] #[.pointer (some ⟨q, 0, none⟩)]] w fun e w' => ∃ z : Int, e = .returned (.int .i64 z) ∧ (decide (0 ≤ z) = l.any fun x => decide (x.name = y.name)) ∧ Fr no w w' := by
  obtain ⟨ad, cp, rfl, hcap, hmx, hit⟩ := h
  unfold maxLen at hmx
  have HI : Hid (∀ (i : Nat) (x : Ms), l[i]? = some x → ∃ b off, ad = some ⟨b, off, none⟩ ∧ ∀ (j : Nat) (u : Value), (elMs.f x)[j]? = some u → w.cell? ⟨b, off + i * 8 + j, none⟩ = some u) := hit
  have HQ : Hid (BoxMs w q y) := hq
  clear hit hq
  go_enter Tryz.func31, Tryz.ntmps31
  go_wp2_with fail
  go_loopw [8] (fun i wr => ∃ (k : Nat), i = .int .i64 (k : Int) ∧ k ≤ l.length ∧ Fr no w wr ∧ ((l.take k).any fun x => decide (x.name = y.name)) = false) (fun i _ => l.length - (intOf i).toNat)
  case atStart => exact ⟨0, rfl, by omega, Fr.refl _ _, by simp⟩
  case round =>
    obtain ⟨k, rfl, hk, hw, hall⟩ := hrel
    have HA : Hid (((l.take k).any fun x => decide (x.name = y.name)) = false) := hall
    clear hall
    by_cases hlt : k < l.length
    · obtain ⟨x, hx⟩ : ∃ x, l[k]? = some x := ⟨_, List.getElem?_eq_getElem hlt⟩
      obtain ⟨b, off, rfl, hc⟩ := HI.out k x hx
      have HX : Hid (l[k]? = some x) := hx
      clear hx
      have hlt' : (k : Int) < (l.length : Int) := by omega
      have c0 : wr.cell? ⟨b, off + k * 8, none⟩ = some (.string x.name) := hw.cell (hc 0 _ rfl) (fun f => f)
      have c1 : wr.cell? ⟨b, off + k * 8 + 1, none⟩ = some (.slice x.p.a x.p.n x.p.c) := hw.cell (hc 1 _ rfl) (fun f => f)
      have c2 : wr.cell? ⟨b, off + k * 8 + 2, none⟩ = some (.int .i64 x.ret.k) := hw.cell (hc 2 _ rfl) (fun f => f)
      have c3 : wr.cell? ⟨b, off + k * 8 + 3, none⟩ = some (.string x.ret.c) := hw.cell (hc 3 _ rfl) (fun f => f)
      have c4 : wr.cell? ⟨b, off + k * 8 + 4, none⟩ = some (.int .i64 x.lo) := hw.cell (hc 4 _ rfl) (fun f => f)
      have c5 : wr.cell? ⟨b, off + k * 8 + 5, none⟩ = some (.int .i64 x.st) := hw.cell (hc 5 _ rfl) (fun f => f)
      have c6 : wr.cell? ⟨b, off + k * 8 + 6, none⟩ = some (.slice x.c.a x.c.n x.c.c) := hw.cell (hc 6 _ rfl) (fun f => f)
      have c7 : wr.cell? ⟨b, off + k * 8 + 7, none⟩ = some (.slice x.h.a x.h.n x.h.c) := hw.cell (hc 7 _ rfl) (fun f => f)
      have E := nameEqMs_any wr q y (HQ.out.kept hw) x
      have HW : Hid (Fr no w wr) := hw
      clear hc hw
      by_cases hn : x.name = y.name
      · rw [decide_eq_true hn] at E
        have HT : Hid ((l.any fun x => decide (x.name = y.name)) = true) := List.any_eq_true.2 ⟨x, List.mem_of_getElem? HX.out, decide_eq_true hn⟩
        clear hn
        go_wp2_with fail
        refine E.mono ?_
        rintro e w2 ⟨rfl, f2⟩
        go_wp2_with fail
        go_ret
        refine ⟨_, rfl, ?_, HW.out.new f2 (fun _ _ f => f)⟩
        rw [HT.out]
        simp
      · rw [decide_eq_false hn] at E
        have HT : Hid (((l.take (k + 1)).any fun x => decide (x.name = y.name)) = false) := by
          show _ = _
          rw [take_next l k x HX.out, List.any_append, HA.out]
          simp [hn]
        clear hn
        go_wp2_with fail
        refine E.mono ?_
        rintro e w2 ⟨rfl, f2⟩
        go_wp2_with fail
        go_roundw
        case rel => exact ⟨k + 1, by go_num, by omega, HW.out.new f2 (fun _ _ f => f), HT.out⟩
        case measure => simp [intOf]; omega
    · have hkl : k = l.length := by omega
      subst hkl
      have HT : Hid ((l.any fun x => decide (x.name = y.name)) = false) := by
        have := HA.out
        rwa [List.take_length] at this
      go_wp2_with fail
      go_ret
      refine ⟨_, rfl, ?_, hw⟩
      rw [HT.out]
      rfl

theorem containsMs_any (w : World) (v : Value) (l : List Ms) (h : SlG elMs w v l) (q : Nat) (y : Ms) (hq : BoxMs w q y) :
    Calls Tryz.prog 73 #[v, .func (.func 74) #[] #[.pointer (some ⟨q, 0, none⟩)]] w fun e w' => e = .returned (.bool (l.any fun x => decide (x.name = y.name))) ∧ Fr no w w' := by
  go_enter Tryz.func73, Tryz.ntmps73
  go_wp2_with fail
  refine (indexMs_any w v l h q y hq).mono ?_
  rintro e w1 ⟨z, rfl, hz, f1⟩
  have HZ : Hid (decide (0 ≤ z) = l.any fun x => decide (x.name = y.name)) := hz
  clear hz
  go_wp2_with fail
  go_ret
  rw [← HZ.out]
  exact ⟨rfl, f1⟩
end Go.Proofs.YtpfkigoffllieaaGreatDoor

/- The first error of a list. -/
namespace Go.Proofs.YtpfkigoffllieaaGreatDoor
open Go.ChangeShapes Go.WideShapes Go.ChangeAt Go.RowKit

def EachCsAt (w0 : World) (v : Value) (most : Int) (fv : Value) (ask : Cs → List Cs → Nat) (l : List Cs) (a : Act) (w : World) : Prop :=
  ∃ (k : Nat) (u3 u4 u5 u6 u7 u8 u9 u10 u11 u12 u13 u14 u15 u16 u17 u18 u19 u20 u21 u22 u23 u24 u25 u26 u27 u28 u29 u30 : Value), a = { tmps := #[v, .int .i64 most, fv, u3, u4, u5, u6, u7, u8, u9, u10, u11, u12, u13, u14, u15, u16, u17, u18, u19, u20, u21, u22, u23, u24, u25, u26, u27, u28, u29, u30], defers := [] } ∧ u7 = .int .i64 (k : Int) ∧ Fr no w0 w ∧ k ≤ l.length ∧ l.length ≤ most.toNat ∧ firstE ask (l.take k) (l.drop k) = firstE ask [] l

set_option maxRecDepth 100000 in
set_option maxHeartbeats 2000000 in
theorem eachCs_any (w : World) (v : Value) (l : List Cs) (h : SlG elCs w v l) (most : Nat) (hmost : most ≤ 1000) (ask : Cs → List Cs → Nat)
    (ASK : ∀ w' v' k x, Fr no w w' → l[k]? = some x → SlG elCs w' v' (l.take k) → Calls Tryz.prog 41 #[.agg #[.int .i64 x.k, .int .i64 x.n, .complex .f64 x.re x.im, .string x.c, .string x.m], v'] w' fun e w2 => e = .returned (.int .i64 (ask x (l.take k) : Int)) ∧ Fr no w' w2) :
    Calls Tryz.prog 40 #[v, .int .i64 (most : Int), .func (.func 41) #[] #[]] w fun e w' => e = .returned (.int .i64 (eachE most ask l : Int)) ∧ Fr no w w' := by
  have H0 := h
  obtain ⟨ad, cp, rfl, hcap, hmx, hit⟩ := h
  unfold maxLen at hmx
  have HI : Hid (∀ (i : Nat) (x : Cs), l[i]? = some x → ∃ b off, ad = some ⟨b, off, none⟩ ∧ ∀ (j : Nat) (u : Value), (elCs.f x)[j]? = some u → w.cell? ⟨b, off + i * elCs.n + j, none⟩ = some u) := hit
  have HS : Hid (SlG elCs w (.slice ad l.length cp) l) := H0
  have HASK : Hid (∀ w' v' k x, Fr no w w' → l[k]? = some x → SlG elCs w' v' (l.take k) → Calls Tryz.prog 41 #[.agg #[.int .i64 x.k, .int .i64 x.n, .complex .f64 x.re x.im, .string x.c, .string x.m], v'] w' fun e w2 => e = .returned (.int .i64 (ask x (l.take k) : Int)) ∧ Fr no w' w2) := ASK
  clear hit H0 ASK
  go_enter Tryz.func40, Tryz.ntmps40
  go_wp2_with fail
  refine wp_label_one 0 (EachCsAt w (.slice ad l.length cp) (most : Int) (.func (.func 41) #[] #[]) ask l) (fun a' _ => l.length - (intOf (a'.tmps.getD 7 undef)).toNat) rfl ?_ ?_
  · intro K h0 hr hn'
    by_cases hbig : most < l.length
    · have HE : Hid (eachE most ask l = 32) := by show _ = _; unfold eachE; rw [if_pos hbig]
      go_wp2_with fail
      refine hr _ _ ?_
      go_ret
      rw [HE.out]
      exact ⟨rfl, Fr.refl _ _⟩
    · have hbig' : ¬ (most : Int) < (l.length : Int) := by omega
      go_wp2_with fail
      go_step3
      rename_i hk
      exact hk _ _ (h0 _ _ ⟨0, _, _, _, _, _, _, _, _, _, _, _, _, _, _, _, _, _, _, _, _, _, _, _, _, _, _, _, _, rfl, rfl, Fr.refl _ _, by omega, by omega, rfl⟩)
  · rintro a' w' ⟨k, u3, u4, u5, u6, u7, u8, u9, u10, u11, u12, u13, u14, u15, u16, u17, u18, u19, u20, u21, u22, u23, u24, u25, u26, u27, u28, u29, u30, rfl, rfl, hw, hk, hlm, hF⟩ K hj hr hn'
    have HFE : Hid (firstE ask (l.take k) (l.drop k) = firstE ask [] l) := hF
    have HEE : Hid (eachE most ask l = firstE ask [] l) := by show _ = _; unfold eachE; rw [if_neg (by omega)]
    clear hF
    by_cases hend : k = l.length
    · subst hend
      have HE : Hid (eachE most ask l = 0) := by
        show _ = _
        rw [HEE.out, ← HFE.out, List.drop_length]
        rfl
      go_wp2_with fail
      refine hr _ _ ?_
      go_ret
      rw [HE.out]
      exact ⟨rfl, hw⟩
    · have hlt : k < l.length := by omega
      have hne : ((k : Int) == (l.length : Int)) = false := by simp; omega
      have hkc : (k : Int) ≤ (cp : Int) := by omega
      have hk0 : (0 : Int) ≤ (k : Int) := by omega
      obtain ⟨x, hx⟩ : ∃ x, l[k]? = some x := ⟨_, List.getElem?_eq_getElem hlt⟩
      obtain ⟨b, off, rfl, hc0⟩ := HI.out k x hx
      have hc : ∀ (j : Nat) (u : Value), (elCs.f x)[j]? = some u → w.cell? ⟨b, off + k * 5 + j, none⟩ = some u := hc0
      clear hc0
      have c0 : w'.cell? ⟨b, off + k * 5, none⟩ = some (.int .i64 x.k) := hw.cell (hc 0 _ rfl) (fun f => f)
      have c1 : w'.cell? ⟨b, off + k * 5 + 1, none⟩ = some (.int .i64 x.n) := hw.cell (hc 1 _ rfl) (fun f => f)
      have c2 : w'.cell? ⟨b, off + k * 5 + 2, none⟩ = some (.complex .f64 x.re x.im) := hw.cell (hc 2 _ rfl) (fun f => f)
      have c3 : w'.cell? ⟨b, off + k * 5 + 3, none⟩ = some (.string x.c) := hw.cell (hc 3 _ rfl) (fun f => f)
      have c4 : w'.cell? ⟨b, off + k * 5 + 4, none⟩ = some (.string x.m) := hw.cell (hc 4 _ rfl) (fun f => f)
      have HW : Hid (Fr no w w') := hw
      have A := fun w2 (f2 : Fr no w' w2) => HASK.out w2 (.slice (some ⟨b, off, none⟩) k cp) k x (hw.new f2 (fun _ _ f => f)) hx ((HS.out.kept (hw.new f2 (fun _ _ f => f))).take (by omega))
      have KS : ∀ w2, Fr no w' w2 → Fr no w' w2 ∧ w2.cell? ⟨b, off + k * 5, none⟩ = some (.int .i64 x.k) ∧ w2.cell? ⟨b, off + k * 5 + 1, none⟩ = some (.int .i64 x.n) ∧ w2.cell? ⟨b, off + k * 5 + 2, none⟩ = some (.complex .f64 x.re x.im) ∧ w2.cell? ⟨b, off + k * 5 + 3, none⟩ = some (.string x.c) ∧ w2.cell? ⟨b, off + k * 5 + 4, none⟩ = some (.string x.m) := fun w2 f2 => ⟨f2, f2.cell c0 (fun f => f), f2.cell c1 (fun f => f), f2.cell c2 (fun f => f), f2.cell c3 (fun f => f), f2.cell c4 (fun f => f)⟩
      have HX : Hid (l[k]? = some x) := hx
      have hdrop : l.drop k = x :: l.drop (k + 1) := by
        have := List.drop_eq_getElem_cons hlt
        rw [this]
        have e : l[k] = x := by
          rw [List.getElem?_eq_getElem hlt] at hx
          exact Option.some.inj hx
        rw [e]
      have HN : Hid (firstE ask [] l = if ask x (l.take k) ≠ 0 then ask x (l.take k) else firstE ask (l.take (k + 1)) (l.drop (k + 1))) := by
        show _ = _
        rw [← HFE.out, hdrop, firstE, take_next l k x hx]
      clear hx hc hw hdrop
      generalize hask : ask x (l.take k) = err at *
      by_cases h0 : err = 0
      · subst h0
        go_wp2_with fail
        go_region_held3 (fun w2 => Fr no w' w2 ∧ w2.cell? ⟨b, off + k * 5, none⟩ = some (.int .i64 x.k) ∧ w2.cell? ⟨b, off + k * 5 + 1, none⟩ = some (.int .i64 x.n) ∧ w2.cell? ⟨b, off + k * 5 + 2, none⟩ = some (.complex .f64 x.re x.im) ∧ w2.cell? ⟨b, off + k * 5 + 3, none⟩ = some (.string x.c) ∧ w2.cell? ⟨b, off + k * 5 + 4, none⟩ = some (.string x.m)) (first | exact KS _ (Fr.refl no _).drew | exact KS _ f3') (first | (go_at_call 41; refine (A _ (Fr.refl no _).drew).mono ?_; rintro e w3 ⟨rfl, f3⟩; have f3' := (Fr.refl no w').drew.new f3 (fun _ _ f => f)))
        go_wp2_with fail
        go_step3
        refine hj _ _ ⟨k + 1, _, _, _, _, _, _, _, _, _, _, _, _, _, _, _, _, _, _, _, _, _, _, _, _, _, _, _, _, rfl, by go_num, HW.out.new f3' (fun _ _ f => f), by omega, by omega, ?_⟩ ?_
        · rw [HN.out, if_neg (by simp)]
        · simp [intOf]
          omega
      · have h0' : ((err : Int) == 0) = false := by simp; omega
        have HE : Hid (eachE most ask l = err) := by show _ = _; rw [HEE.out, HN.out, if_pos h0]
        go_wp2_with fail
        go_region_held3 (fun w2 => Fr no w' w2 ∧ w2.cell? ⟨b, off + k * 5, none⟩ = some (.int .i64 x.k) ∧ w2.cell? ⟨b, off + k * 5 + 1, none⟩ = some (.int .i64 x.n) ∧ w2.cell? ⟨b, off + k * 5 + 2, none⟩ = some (.complex .f64 x.re x.im) ∧ w2.cell? ⟨b, off + k * 5 + 3, none⟩ = some (.string x.c) ∧ w2.cell? ⟨b, off + k * 5 + 4, none⟩ = some (.string x.m)) (first | exact KS _ (Fr.refl no _).drew | exact KS _ f3') (first | (go_at_call 41; refine (A _ (Fr.refl no _).drew).mono ?_; rintro e w3 ⟨rfl, f3⟩; have f3' := (Fr.refl no w').drew.new f3 (fun _ _ f => f)))
        go_wp2_with fail
        refine hr _ _ ?_
        go_ret
        rw [HE.out]
        exact ⟨rfl, HW.out.new f3' (fun _ _ f => f)⟩

def EachFdAt (w0 : World) (v : Value) (most : Int) (fv : Value) (ask : Fd → List Fd → Nat) (l : List Fd) (a : Act) (w : World) : Prop :=
  ∃ (k : Nat) (u3 u4 u5 u6 u7 u8 u9 u10 u11 u12 u13 u14 u15 u16 u17 u18 u19 u20 u21 u22 u23 u24 u25 u26 u27 u28 u29 u30 : Value), a = { tmps := #[v, .int .i64 most, fv, u3, u4, u5, u6, u7, u8, u9, u10, u11, u12, u13, u14, u15, u16, u17, u18, u19, u20, u21, u22, u23, u24, u25, u26, u27, u28, u29, u30], defers := [] } ∧ u7 = .int .i64 (k : Int) ∧ Fr no w0 w ∧ k ≤ l.length ∧ l.length ≤ most.toNat ∧ firstE ask (l.take k) (l.drop k) = firstE ask [] l

set_option maxRecDepth 100000 in
set_option maxHeartbeats 2000000 in
theorem eachFd_any (w : World) (v : Value) (l : List Fd) (h : SlG elFd w v l) (most : Nat) (hmost : most ≤ 1000) (ask : Fd → List Fd → Nat)
    (ASK : ∀ w' v' k x, Fr no w w' → l[k]? = some x → SlG elFd w' v' (l.take k) → Calls Tryz.prog 43 #[.agg #[.string x.name, .int .i64 x.ty.k, .string x.ty.c, .bool x.vol], v'] w' fun e w2 => e = .returned (.int .i64 (ask x (l.take k) : Int)) ∧ Fr no w' w2) :
    Calls Tryz.prog 42 #[v, .int .i64 (most : Int), .func (.func 43) #[] #[]] w fun e w' => e = .returned (.int .i64 (eachE most ask l : Int)) ∧ Fr no w w' := by
  have H0 := h
  obtain ⟨ad, cp, rfl, hcap, hmx, hit⟩ := h
  unfold maxLen at hmx
  have HI : Hid (∀ (i : Nat) (x : Fd), l[i]? = some x → ∃ b off, ad = some ⟨b, off, none⟩ ∧ ∀ (j : Nat) (u : Value), (elFd.f x)[j]? = some u → w.cell? ⟨b, off + i * elFd.n + j, none⟩ = some u) := hit
  have HS : Hid (SlG elFd w (.slice ad l.length cp) l) := H0
  have HASK : Hid (∀ w' v' k x, Fr no w w' → l[k]? = some x → SlG elFd w' v' (l.take k) → Calls Tryz.prog 43 #[.agg #[.string x.name, .int .i64 x.ty.k, .string x.ty.c, .bool x.vol], v'] w' fun e w2 => e = .returned (.int .i64 (ask x (l.take k) : Int)) ∧ Fr no w' w2) := ASK
  clear hit H0 ASK
  go_enter Tryz.func42, Tryz.ntmps42
  go_wp2_with fail
  refine wp_label_one 0 (EachFdAt w (.slice ad l.length cp) (most : Int) (.func (.func 43) #[] #[]) ask l) (fun a' _ => l.length - (intOf (a'.tmps.getD 7 undef)).toNat) rfl ?_ ?_
  · intro K h0 hr hn'
    by_cases hbig : most < l.length
    · have HE : Hid (eachE most ask l = 32) := by show _ = _; unfold eachE; rw [if_pos hbig]
      go_wp2_with fail
      refine hr _ _ ?_
      go_ret
      rw [HE.out]
      exact ⟨rfl, Fr.refl _ _⟩
    · have hbig' : ¬ (most : Int) < (l.length : Int) := by omega
      go_wp2_with fail
      go_step3
      rename_i hk
      exact hk _ _ (h0 _ _ ⟨0, _, _, _, _, _, _, _, _, _, _, _, _, _, _, _, _, _, _, _, _, _, _, _, _, _, _, _, _, rfl, rfl, Fr.refl _ _, by omega, by omega, rfl⟩)
  · rintro a' w' ⟨k, u3, u4, u5, u6, u7, u8, u9, u10, u11, u12, u13, u14, u15, u16, u17, u18, u19, u20, u21, u22, u23, u24, u25, u26, u27, u28, u29, u30, rfl, rfl, hw, hk, hlm, hF⟩ K hj hr hn'
    have HFE : Hid (firstE ask (l.take k) (l.drop k) = firstE ask [] l) := hF
    have HEE : Hid (eachE most ask l = firstE ask [] l) := by show _ = _; unfold eachE; rw [if_neg (by omega)]
    clear hF
    by_cases hend : k = l.length
    · subst hend
      have HE : Hid (eachE most ask l = 0) := by
        show _ = _
        rw [HEE.out, ← HFE.out, List.drop_length]
        rfl
      go_wp2_with fail
      refine hr _ _ ?_
      go_ret
      rw [HE.out]
      exact ⟨rfl, hw⟩
    · have hlt : k < l.length := by omega
      have hne : ((k : Int) == (l.length : Int)) = false := by simp; omega
      have hkc : (k : Int) ≤ (cp : Int) := by omega
      have hk0 : (0 : Int) ≤ (k : Int) := by omega
      obtain ⟨x, hx⟩ : ∃ x, l[k]? = some x := ⟨_, List.getElem?_eq_getElem hlt⟩
      obtain ⟨b, off, rfl, hc0⟩ := HI.out k x hx
      have hc : ∀ (j : Nat) (u : Value), (elFd.f x)[j]? = some u → w.cell? ⟨b, off + k * 4 + j, none⟩ = some u := hc0
      clear hc0
      have c0 : w'.cell? ⟨b, off + k * 4, none⟩ = some (.string x.name) := hw.cell (hc 0 _ rfl) (fun f => f)
      have c1 : w'.cell? ⟨b, off + k * 4 + 1, none⟩ = some (.int .i64 x.ty.k) := hw.cell (hc 1 _ rfl) (fun f => f)
      have c2 : w'.cell? ⟨b, off + k * 4 + 2, none⟩ = some (.string x.ty.c) := hw.cell (hc 2 _ rfl) (fun f => f)
      have c3 : w'.cell? ⟨b, off + k * 4 + 3, none⟩ = some (.bool x.vol) := hw.cell (hc 3 _ rfl) (fun f => f)
      have HW : Hid (Fr no w w') := hw
      have A := fun w2 (f2 : Fr no w' w2) => HASK.out w2 (.slice (some ⟨b, off, none⟩) k cp) k x (hw.new f2 (fun _ _ f => f)) hx ((HS.out.kept (hw.new f2 (fun _ _ f => f))).take (by omega))
      have KS : ∀ w2, Fr no w' w2 → Fr no w' w2 ∧ w2.cell? ⟨b, off + k * 4, none⟩ = some (.string x.name) ∧ w2.cell? ⟨b, off + k * 4 + 1, none⟩ = some (.int .i64 x.ty.k) ∧ w2.cell? ⟨b, off + k * 4 + 2, none⟩ = some (.string x.ty.c) ∧ w2.cell? ⟨b, off + k * 4 + 3, none⟩ = some (.bool x.vol) := fun w2 f2 => ⟨f2, f2.cell c0 (fun f => f), f2.cell c1 (fun f => f), f2.cell c2 (fun f => f), f2.cell c3 (fun f => f)⟩
      have HX : Hid (l[k]? = some x) := hx
      have hdrop : l.drop k = x :: l.drop (k + 1) := by
        have := List.drop_eq_getElem_cons hlt
        rw [this]
        have e : l[k] = x := by
          rw [List.getElem?_eq_getElem hlt] at hx
          exact Option.some.inj hx
        rw [e]
      have HN : Hid (firstE ask [] l = if ask x (l.take k) ≠ 0 then ask x (l.take k) else firstE ask (l.take (k + 1)) (l.drop (k + 1))) := by
        show _ = _
        rw [← HFE.out, hdrop, firstE, take_next l k x hx]
      clear hx hc hw hdrop
      generalize hask : ask x (l.take k) = err at *
      by_cases h0 : err = 0
      · subst h0
        go_wp2_with fail
        go_region_held3 (fun w2 => Fr no w' w2 ∧ w2.cell? ⟨b, off + k * 4, none⟩ = some (.string x.name) ∧ w2.cell? ⟨b, off + k * 4 + 1, none⟩ = some (.int .i64 x.ty.k) ∧ w2.cell? ⟨b, off + k * 4 + 2, none⟩ = some (.string x.ty.c) ∧ w2.cell? ⟨b, off + k * 4 + 3, none⟩ = some (.bool x.vol)) (first | exact KS _ (Fr.refl no _).drew | exact KS _ f3') (first | (go_at_call 43; refine (A _ (Fr.refl no _).drew).mono ?_; rintro e w3 ⟨rfl, f3⟩; have f3' := (Fr.refl no w').drew.new f3 (fun _ _ f => f)))
        go_wp2_with fail
        go_step3
        refine hj _ _ ⟨k + 1, _, _, _, _, _, _, _, _, _, _, _, _, _, _, _, _, _, _, _, _, _, _, _, _, _, _, _, _, rfl, by go_num, HW.out.new f3' (fun _ _ f => f), by omega, by omega, ?_⟩ ?_
        · rw [HN.out, if_neg (by simp)]
        · simp [intOf]
          omega
      · have h0' : ((err : Int) == 0) = false := by simp; omega
        have HE : Hid (eachE most ask l = err) := by show _ = _; rw [HEE.out, HN.out, if_pos h0]
        go_wp2_with fail
        go_region_held3 (fun w2 => Fr no w' w2 ∧ w2.cell? ⟨b, off + k * 4, none⟩ = some (.string x.name) ∧ w2.cell? ⟨b, off + k * 4 + 1, none⟩ = some (.int .i64 x.ty.k) ∧ w2.cell? ⟨b, off + k * 4 + 2, none⟩ = some (.string x.ty.c) ∧ w2.cell? ⟨b, off + k * 4 + 3, none⟩ = some (.bool x.vol)) (first | exact KS _ (Fr.refl no _).drew | exact KS _ f3') (first | (go_at_call 43; refine (A _ (Fr.refl no _).drew).mono ?_; rintro e w3 ⟨rfl, f3⟩; have f3' := (Fr.refl no w').drew.new f3 (fun _ _ f => f)))
        go_wp2_with fail
        refine hr _ _ ?_
        go_ret
        rw [HE.out]
        exact ⟨rfl, HW.out.new f3' (fun _ _ f => f)⟩

def EachTyAt (w0 : World) (v : Value) (most : Int) (fv : Value) (ask : Ty → List Ty → Nat) (l : List Ty) (a : Act) (w : World) : Prop :=
  ∃ (k : Nat) (u3 u4 u5 u6 u7 u8 u9 u10 u11 u12 u13 u14 u15 u16 u17 u18 u19 u20 u21 u22 u23 u24 u25 u26 u27 u28 u29 u30 : Value), a = { tmps := #[v, .int .i64 most, fv, u3, u4, u5, u6, u7, u8, u9, u10, u11, u12, u13, u14, u15, u16, u17, u18, u19, u20, u21, u22, u23, u24, u25, u26, u27, u28, u29, u30], defers := [] } ∧ u7 = .int .i64 (k : Int) ∧ Fr no w0 w ∧ k ≤ l.length ∧ l.length ≤ most.toNat ∧ firstE ask (l.take k) (l.drop k) = firstE ask [] l

set_option maxRecDepth 100000 in
set_option maxHeartbeats 2000000 in
theorem eachTy_any (w : World) (v : Value) (l : List Ty) (h : SlG elTy w v l) (most : Nat) (hmost : most ≤ 1000) (ask : Ty → List Ty → Nat)
    (ASK : ∀ w' v' k x, Fr no w w' → l[k]? = some x → SlG elTy w' v' (l.take k) → Calls Tryz.prog 72 #[.agg #[.int .i64 x.k, .string x.c], v'] w' fun e w2 => e = .returned (.int .i64 (ask x (l.take k) : Int)) ∧ Fr no w' w2) :
    Calls Tryz.prog 71 #[v, .int .i64 (most : Int), .func (.func 72) #[] #[]] w fun e w' => e = .returned (.int .i64 (eachE most ask l : Int)) ∧ Fr no w w' := by
  have H0 := h
  obtain ⟨ad, cp, rfl, hcap, hmx, hit⟩ := h
  unfold maxLen at hmx
  have HI : Hid (∀ (i : Nat) (x : Ty), l[i]? = some x → ∃ b off, ad = some ⟨b, off, none⟩ ∧ ∀ (j : Nat) (u : Value), (elTy.f x)[j]? = some u → w.cell? ⟨b, off + i * elTy.n + j, none⟩ = some u) := hit
  have HS : Hid (SlG elTy w (.slice ad l.length cp) l) := H0
  have HASK : Hid (∀ w' v' k x, Fr no w w' → l[k]? = some x → SlG elTy w' v' (l.take k) → Calls Tryz.prog 72 #[.agg #[.int .i64 x.k, .string x.c], v'] w' fun e w2 => e = .returned (.int .i64 (ask x (l.take k) : Int)) ∧ Fr no w' w2) := ASK
  clear hit H0 ASK
  go_enter Tryz.func71, Tryz.ntmps71
  go_wp2_with fail
  refine wp_label_one 0 (EachTyAt w (.slice ad l.length cp) (most : Int) (.func (.func 72) #[] #[]) ask l) (fun a' _ => l.length - (intOf (a'.tmps.getD 7 undef)).toNat) rfl ?_ ?_
  · intro K h0 hr hn'
    by_cases hbig : most < l.length
    · have HE : Hid (eachE most ask l = 32) := by show _ = _; unfold eachE; rw [if_pos hbig]
      go_wp2_with fail
      refine hr _ _ ?_
      go_ret
      rw [HE.out]
      exact ⟨rfl, Fr.refl _ _⟩
    · have hbig' : ¬ (most : Int) < (l.length : Int) := by omega
      go_wp2_with fail
      go_step3
      rename_i hk
      exact hk _ _ (h0 _ _ ⟨0, _, _, _, _, _, _, _, _, _, _, _, _, _, _, _, _, _, _, _, _, _, _, _, _, _, _, _, _, rfl, rfl, Fr.refl _ _, by omega, by omega, rfl⟩)
  · rintro a' w' ⟨k, u3, u4, u5, u6, u7, u8, u9, u10, u11, u12, u13, u14, u15, u16, u17, u18, u19, u20, u21, u22, u23, u24, u25, u26, u27, u28, u29, u30, rfl, rfl, hw, hk, hlm, hF⟩ K hj hr hn'
    have HFE : Hid (firstE ask (l.take k) (l.drop k) = firstE ask [] l) := hF
    have HEE : Hid (eachE most ask l = firstE ask [] l) := by show _ = _; unfold eachE; rw [if_neg (by omega)]
    clear hF
    by_cases hend : k = l.length
    · subst hend
      have HE : Hid (eachE most ask l = 0) := by
        show _ = _
        rw [HEE.out, ← HFE.out, List.drop_length]
        rfl
      go_wp2_with fail
      refine hr _ _ ?_
      go_ret
      rw [HE.out]
      exact ⟨rfl, hw⟩
    · have hlt : k < l.length := by omega
      have hne : ((k : Int) == (l.length : Int)) = false := by simp; omega
      have hkc : (k : Int) ≤ (cp : Int) := by omega
      have hk0 : (0 : Int) ≤ (k : Int) := by omega
      obtain ⟨x, hx⟩ : ∃ x, l[k]? = some x := ⟨_, List.getElem?_eq_getElem hlt⟩
      obtain ⟨b, off, rfl, hc0⟩ := HI.out k x hx
      have hc : ∀ (j : Nat) (u : Value), (elTy.f x)[j]? = some u → w.cell? ⟨b, off + k * 2 + j, none⟩ = some u := hc0
      clear hc0
      have c0 : w'.cell? ⟨b, off + k * 2, none⟩ = some (.int .i64 x.k) := hw.cell (hc 0 _ rfl) (fun f => f)
      have c1 : w'.cell? ⟨b, off + k * 2 + 1, none⟩ = some (.string x.c) := hw.cell (hc 1 _ rfl) (fun f => f)
      have HW : Hid (Fr no w w') := hw
      have A := fun w2 (f2 : Fr no w' w2) => HASK.out w2 (.slice (some ⟨b, off, none⟩) k cp) k x (hw.new f2 (fun _ _ f => f)) hx ((HS.out.kept (hw.new f2 (fun _ _ f => f))).take (by omega))
      have KS : ∀ w2, Fr no w' w2 → Fr no w' w2 ∧ w2.cell? ⟨b, off + k * 2, none⟩ = some (.int .i64 x.k) ∧ w2.cell? ⟨b, off + k * 2 + 1, none⟩ = some (.string x.c) := fun w2 f2 => ⟨f2, f2.cell c0 (fun f => f), f2.cell c1 (fun f => f)⟩
      have HX : Hid (l[k]? = some x) := hx
      have hdrop : l.drop k = x :: l.drop (k + 1) := by
        have := List.drop_eq_getElem_cons hlt
        rw [this]
        have e : l[k] = x := by
          rw [List.getElem?_eq_getElem hlt] at hx
          exact Option.some.inj hx
        rw [e]
      have HN : Hid (firstE ask [] l = if ask x (l.take k) ≠ 0 then ask x (l.take k) else firstE ask (l.take (k + 1)) (l.drop (k + 1))) := by
        show _ = _
        rw [← HFE.out, hdrop, firstE, take_next l k x hx]
      clear hx hc hw hdrop
      generalize hask : ask x (l.take k) = err at *
      by_cases h0 : err = 0
      · subst h0
        go_wp2_with fail
        go_region_held3 (fun w2 => Fr no w' w2 ∧ w2.cell? ⟨b, off + k * 2, none⟩ = some (.int .i64 x.k) ∧ w2.cell? ⟨b, off + k * 2 + 1, none⟩ = some (.string x.c)) (first | exact KS _ (Fr.refl no _).drew | exact KS _ f3') (first | (go_at_call 72; refine (A _ (Fr.refl no _).drew).mono ?_; rintro e w3 ⟨rfl, f3⟩; have f3' := (Fr.refl no w').drew.new f3 (fun _ _ f => f)))
        go_wp2_with fail
        go_step3
        refine hj _ _ ⟨k + 1, _, _, _, _, _, _, _, _, _, _, _, _, _, _, _, _, _, _, _, _, _, _, _, _, _, _, _, _, rfl, by go_num, HW.out.new f3' (fun _ _ f => f), by omega, by omega, ?_⟩ ?_
        · rw [HN.out, if_neg (by simp)]
        · simp [intOf]
          omega
      · have h0' : ((err : Int) == 0) = false := by simp; omega
        have HE : Hid (eachE most ask l = err) := by show _ = _; rw [HEE.out, HN.out, if_pos h0]
        go_wp2_with fail
        go_region_held3 (fun w2 => Fr no w' w2 ∧ w2.cell? ⟨b, off + k * 2, none⟩ = some (.int .i64 x.k) ∧ w2.cell? ⟨b, off + k * 2 + 1, none⟩ = some (.string x.c)) (first | exact KS _ (Fr.refl no _).drew | exact KS _ f3') (first | (go_at_call 72; refine (A _ (Fr.refl no _).drew).mono ?_; rintro e w3 ⟨rfl, f3⟩; have f3' := (Fr.refl no w').drew.new f3 (fun _ _ f => f)))
        go_wp2_with fail
        refine hr _ _ ?_
        go_ret
        rw [HE.out]
        exact ⟨rfl, HW.out.new f3' (fun _ _ f => f)⟩
end Go.Proofs.YtpfkigoffllieaaGreatDoor

/- The first error of a list, of other kinds. -/
namespace Go.Proofs.YtpfkigoffllieaaGreatDoor
open Go.ChangeShapes Go.WideShapes Go.ChangeAt Go.RowKit

def elIn : El (Int × Int) := { t := 24, e := 26, n := 2, z := .agg #[.int .i64 0, .int .i64 0], b := 16, f := fun x => [.int .i64 x.1, .int .i64 x.2] }

theorem SlI.g {w : World} {v : Value} {l : List (Int × Int)} (h : SlI w v l) : SlG elIn w v l := by
  obtain ⟨ad, cap, rfl, h1, h2, h3⟩ := h
  refine ⟨ad, cap, rfl, h1, h2, fun i x hx => ?_⟩
  obtain ⟨b, off, rfl, c0, c1⟩ := h3 i x hx
  refine ⟨b, off, rfl, fun j u hj => ?_⟩
  match j, hj with
  | 0, hj => simp [elIn] at hj; subst hj; exact c0
  | 1, hj => simp [elIn] at hj; subst hj; exact c1
  | n + 2, hj => simp [elIn] at hj

def EachInAt (w0 : World) (v : Value) (most : Int) (fv : Value) (ask : (Int × Int) → List (Int × Int) → Nat) (l : List (Int × Int)) (a : Act) (w : World) : Prop :=
  ∃ (k : Nat) (u3 u4 u5 u6 u7 u8 u9 u10 u11 u12 u13 u14 u15 u16 u17 u18 u19 u20 u21 u22 u23 u24 u25 u26 u27 u28 u29 u30 : Value), a = { tmps := #[v, .int .i64 most, fv, u3, u4, u5, u6, u7, u8, u9, u10, u11, u12, u13, u14, u15, u16, u17, u18, u19, u20, u21, u22, u23, u24, u25, u26, u27, u28, u29, u30], defers := [] } ∧ u7 = .int .i64 (k : Int) ∧ Fr no w0 w ∧ k ≤ l.length ∧ l.length ≤ most.toNat ∧ firstE ask (l.take k) (l.drop k) = firstE ask [] l

set_option maxRecDepth 100000 in
set_option maxHeartbeats 2000000 in
theorem eachIn_any (w : World) (v : Value) (l : List (Int × Int)) (h : SlG elIn w v l) (most : Nat) (hmost : most ≤ 1000) (q r : Nat) (ask : (Int × Int) → List (Int × Int) → Nat)
    (ASK : ∀ w' v' k x, Fr no w w' → l[k]? = some x → SlG elIn w' v' (l.take k) → Calls Tryz.prog 76 #[.agg #[.int .i64 x.1, .int .i64 x.2], v', .pointer (some ⟨q, 0, none⟩), .pointer (some ⟨r, 0, none⟩)] w' fun e w2 => e = .returned (.int .i64 (ask x (l.take k) : Int)) ∧ Fr no w' w2) :
    Calls Tryz.prog 75 #[v, .int .i64 (most : Int), .func (.func 76) #[] #[.pointer (some ⟨q, 0, none⟩), .pointer (some ⟨r, 0, none⟩)]] w fun e w' => e = .returned (.int .i64 (eachE most ask l : Int)) ∧ Fr no w w' := by
  have H0 := h
  obtain ⟨ad, cp, rfl, hcap, hmx, hit⟩ := h
  unfold maxLen at hmx
  have HI : Hid (∀ (i : Nat) (x : (Int × Int)), l[i]? = some x → ∃ b off, ad = some ⟨b, off, none⟩ ∧ ∀ (j : Nat) (u : Value), (elIn.f x)[j]? = some u → w.cell? ⟨b, off + i * elIn.n + j, none⟩ = some u) := hit
  have HS : Hid (SlG elIn w (.slice ad l.length cp) l) := H0
  have HASK : Hid (∀ w' v' k x, Fr no w w' → l[k]? = some x → SlG elIn w' v' (l.take k) → Calls Tryz.prog 76 #[.agg #[.int .i64 x.1, .int .i64 x.2], v', .pointer (some ⟨q, 0, none⟩), .pointer (some ⟨r, 0, none⟩)] w' fun e w2 => e = .returned (.int .i64 (ask x (l.take k) : Int)) ∧ Fr no w' w2) := ASK
  clear hit H0 ASK
  go_enter Tryz.func75, Tryz.ntmps75
  go_wp2_with fail
  refine wp_label_one 0 (EachInAt w (.slice ad l.length cp) (most : Int) (.func (.func 76) #[] #[.pointer (some ⟨q, 0, none⟩), .pointer (some ⟨r, 0, none⟩)]) ask l) (fun a' _ => l.length - (intOf (a'.tmps.getD 7 undef)).toNat) rfl ?_ ?_
  · intro K h0 hr hn'
    by_cases hbig : most < l.length
    · have HE : Hid (eachE most ask l = 32) := by show _ = _; unfold eachE; rw [if_pos hbig]
      go_wp2_with fail
      refine hr _ _ ?_
      go_ret
      rw [HE.out]
      exact ⟨rfl, Fr.refl _ _⟩
    · have hbig' : ¬ (most : Int) < (l.length : Int) := by omega
      go_wp2_with fail
      go_step3
      rename_i hk
      exact hk _ _ (h0 _ _ ⟨0, _, _, _, _, _, _, _, _, _, _, _, _, _, _, _, _, _, _, _, _, _, _, _, _, _, _, _, _, rfl, rfl, Fr.refl _ _, by omega, by omega, rfl⟩)
  · rintro a' w' ⟨k, u3, u4, u5, u6, u7, u8, u9, u10, u11, u12, u13, u14, u15, u16, u17, u18, u19, u20, u21, u22, u23, u24, u25, u26, u27, u28, u29, u30, rfl, rfl, hw, hk, hlm, hF⟩ K hj hr hn'
    have HFE : Hid (firstE ask (l.take k) (l.drop k) = firstE ask [] l) := hF
    have HEE : Hid (eachE most ask l = firstE ask [] l) := by show _ = _; unfold eachE; rw [if_neg (by omega)]
    clear hF
    by_cases hend : k = l.length
    · subst hend
      have HE : Hid (eachE most ask l = 0) := by
        show _ = _
        rw [HEE.out, ← HFE.out, List.drop_length]
        rfl
      go_wp2_with fail
      refine hr _ _ ?_
      go_ret
      rw [HE.out]
      exact ⟨rfl, hw⟩
    · have hlt : k < l.length := by omega
      have hne : ((k : Int) == (l.length : Int)) = false := by simp; omega
      have hkc : (k : Int) ≤ (cp : Int) := by omega
      have hk0 : (0 : Int) ≤ (k : Int) := by omega
      obtain ⟨x, hx⟩ : ∃ x, l[k]? = some x := ⟨_, List.getElem?_eq_getElem hlt⟩
      obtain ⟨b, off, rfl, hc0⟩ := HI.out k x hx
      have hc : ∀ (j : Nat) (u : Value), (elIn.f x)[j]? = some u → w.cell? ⟨b, off + k * 2 + j, none⟩ = some u := hc0
      clear hc0
      have c0 : w'.cell? ⟨b, off + k * 2, none⟩ = some (.int .i64 x.1) := hw.cell (hc 0 _ rfl) (fun f => f)
      have c1 : w'.cell? ⟨b, off + k * 2 + 1, none⟩ = some (.int .i64 x.2) := hw.cell (hc 1 _ rfl) (fun f => f)
      have HW : Hid (Fr no w w') := hw
      have A := fun w2 (f2 : Fr no w' w2) => HASK.out w2 (.slice (some ⟨b, off, none⟩) k cp) k x (hw.new f2 (fun _ _ f => f)) hx ((HS.out.kept (hw.new f2 (fun _ _ f => f))).take (by omega))
      have KS : ∀ w2, Fr no w' w2 → Fr no w' w2 ∧ w2.cell? ⟨b, off + k * 2, none⟩ = some (.int .i64 x.1) ∧ w2.cell? ⟨b, off + k * 2 + 1, none⟩ = some (.int .i64 x.2) := fun w2 f2 => ⟨f2, f2.cell c0 (fun f => f), f2.cell c1 (fun f => f)⟩
      have HX : Hid (l[k]? = some x) := hx
      have hdrop : l.drop k = x :: l.drop (k + 1) := by
        have := List.drop_eq_getElem_cons hlt
        rw [this]
        have e : l[k] = x := by
          rw [List.getElem?_eq_getElem hlt] at hx
          exact Option.some.inj hx
        rw [e]
      have HN : Hid (firstE ask [] l = if ask x (l.take k) ≠ 0 then ask x (l.take k) else firstE ask (l.take (k + 1)) (l.drop (k + 1))) := by
        show _ = _
        rw [← HFE.out, hdrop, firstE, take_next l k x hx]
      clear hx hc hw hdrop
      generalize hask : ask x (l.take k) = err at *
      by_cases h0 : err = 0
      · subst h0
        go_wp2_with fail
        go_region_held3 (fun w2 => Fr no w' w2 ∧ w2.cell? ⟨b, off + k * 2, none⟩ = some (.int .i64 x.1) ∧ w2.cell? ⟨b, off + k * 2 + 1, none⟩ = some (.int .i64 x.2)) (first | exact KS _ (Fr.refl no _).drew | exact KS _ f3') (first | (go_at_call 76; refine (A _ (Fr.refl no _).drew).mono ?_; rintro e w3 ⟨rfl, f3⟩; have f3' := (Fr.refl no w').drew.new f3 (fun _ _ f => f)))
        go_wp2_with fail
        go_step3
        refine hj _ _ ⟨k + 1, _, _, _, _, _, _, _, _, _, _, _, _, _, _, _, _, _, _, _, _, _, _, _, _, _, _, _, _, rfl, by go_num, HW.out.new f3' (fun _ _ f => f), by omega, by omega, ?_⟩ ?_
        · rw [HN.out, if_neg (by simp)]
        · simp [intOf]
          omega
      · have h0' : ((err : Int) == 0) = false := by simp; omega
        have HE : Hid (eachE most ask l = err) := by show _ = _; rw [HEE.out, HN.out, if_pos h0]
        go_wp2_with fail
        go_region_held3 (fun w2 => Fr no w' w2 ∧ w2.cell? ⟨b, off + k * 2, none⟩ = some (.int .i64 x.1) ∧ w2.cell? ⟨b, off + k * 2 + 1, none⟩ = some (.int .i64 x.2)) (first | exact KS _ (Fr.refl no _).drew | exact KS _ f3') (first | (go_at_call 76; refine (A _ (Fr.refl no _).drew).mono ?_; rintro e w3 ⟨rfl, f3⟩; have f3' := (Fr.refl no w').drew.new f3 (fun _ _ f => f)))
        go_wp2_with fail
        refine hr _ _ ?_
        go_ret
        rw [HE.out]
        exact ⟨rfl, HW.out.new f3' (fun _ _ f => f)⟩

def EachHdAt (w0 : World) (v : Value) (most : Int) (fv : Value) (ask : Hd → List Hd → Nat) (l : List Hd) (a : Act) (w : World) : Prop :=
  ∃ (k : Nat) (u3 u4 u5 u6 u7 u8 u9 u10 u11 u12 u13 u14 u15 u16 u17 u18 u19 u20 u21 u22 u23 u24 u25 u26 u27 u28 u29 u30 : Value), a = { tmps := #[v, .int .i64 most, fv, u3, u4, u5, u6, u7, u8, u9, u10, u11, u12, u13, u14, u15, u16, u17, u18, u19, u20, u21, u22, u23, u24, u25, u26, u27, u28, u29, u30], defers := [] } ∧ u7 = .int .i64 (k : Int) ∧ Fr no w0 w ∧ k ≤ l.length ∧ l.length ≤ most.toNat ∧ firstE ask (l.take k) (l.drop k) = firstE ask [] l

set_option maxRecDepth 100000 in
set_option maxHeartbeats 2000000 in
theorem eachHd_any (w : World) (v : Value) (l : List Hd) (h : SlG elHd w v l) (most : Nat) (hmost : most ≤ 1000) (q r : Nat) (ask : Hd → List Hd → Nat)
    (ASK : ∀ w' v' k x, Fr no w w' → l[k]? = some x → SlG elHd w' v' (l.take k) → Calls Tryz.prog 80 #[.agg #[.int .i64 x.fr, .int .i64 x.to, .int .i64 x.tg, .int .i64 x.cl, .int .i64 x.dp], v', .pointer (some ⟨q, 0, none⟩), .pointer (some ⟨r, 0, none⟩)] w' fun e w2 => e = .returned (.int .i64 (ask x (l.take k) : Int)) ∧ Fr no w' w2) :
    Calls Tryz.prog 79 #[v, .int .i64 (most : Int), .func (.func 80) #[] #[.pointer (some ⟨q, 0, none⟩), .pointer (some ⟨r, 0, none⟩)]] w fun e w' => e = .returned (.int .i64 (eachE most ask l : Int)) ∧ Fr no w w' := by
  have H0 := h
  obtain ⟨ad, cp, rfl, hcap, hmx, hit⟩ := h
  unfold maxLen at hmx
  have HI : Hid (∀ (i : Nat) (x : Hd), l[i]? = some x → ∃ b off, ad = some ⟨b, off, none⟩ ∧ ∀ (j : Nat) (u : Value), (elHd.f x)[j]? = some u → w.cell? ⟨b, off + i * elHd.n + j, none⟩ = some u) := hit
  have HS : Hid (SlG elHd w (.slice ad l.length cp) l) := H0
  have HASK : Hid (∀ w' v' k x, Fr no w w' → l[k]? = some x → SlG elHd w' v' (l.take k) → Calls Tryz.prog 80 #[.agg #[.int .i64 x.fr, .int .i64 x.to, .int .i64 x.tg, .int .i64 x.cl, .int .i64 x.dp], v', .pointer (some ⟨q, 0, none⟩), .pointer (some ⟨r, 0, none⟩)] w' fun e w2 => e = .returned (.int .i64 (ask x (l.take k) : Int)) ∧ Fr no w' w2) := ASK
  clear hit H0 ASK
  go_enter Tryz.func79, Tryz.ntmps79
  go_wp2_with fail
  refine wp_label_one 0 (EachHdAt w (.slice ad l.length cp) (most : Int) (.func (.func 80) #[] #[.pointer (some ⟨q, 0, none⟩), .pointer (some ⟨r, 0, none⟩)]) ask l) (fun a' _ => l.length - (intOf (a'.tmps.getD 7 undef)).toNat) rfl ?_ ?_
  · intro K h0 hr hn'
    by_cases hbig : most < l.length
    · have HE : Hid (eachE most ask l = 32) := by show _ = _; unfold eachE; rw [if_pos hbig]
      go_wp2_with fail
      refine hr _ _ ?_
      go_ret
      rw [HE.out]
      exact ⟨rfl, Fr.refl _ _⟩
    · have hbig' : ¬ (most : Int) < (l.length : Int) := by omega
      go_wp2_with fail
      go_step3
      rename_i hk
      exact hk _ _ (h0 _ _ ⟨0, _, _, _, _, _, _, _, _, _, _, _, _, _, _, _, _, _, _, _, _, _, _, _, _, _, _, _, _, rfl, rfl, Fr.refl _ _, by omega, by omega, rfl⟩)
  · rintro a' w' ⟨k, u3, u4, u5, u6, u7, u8, u9, u10, u11, u12, u13, u14, u15, u16, u17, u18, u19, u20, u21, u22, u23, u24, u25, u26, u27, u28, u29, u30, rfl, rfl, hw, hk, hlm, hF⟩ K hj hr hn'
    have HFE : Hid (firstE ask (l.take k) (l.drop k) = firstE ask [] l) := hF
    have HEE : Hid (eachE most ask l = firstE ask [] l) := by show _ = _; unfold eachE; rw [if_neg (by omega)]
    clear hF
    by_cases hend : k = l.length
    · subst hend
      have HE : Hid (eachE most ask l = 0) := by
        show _ = _
        rw [HEE.out, ← HFE.out, List.drop_length]
        rfl
      go_wp2_with fail
      refine hr _ _ ?_
      go_ret
      rw [HE.out]
      exact ⟨rfl, hw⟩
    · have hlt : k < l.length := by omega
      have hne : ((k : Int) == (l.length : Int)) = false := by simp; omega
      have hkc : (k : Int) ≤ (cp : Int) := by omega
      have hk0 : (0 : Int) ≤ (k : Int) := by omega
      obtain ⟨x, hx⟩ : ∃ x, l[k]? = some x := ⟨_, List.getElem?_eq_getElem hlt⟩
      obtain ⟨b, off, rfl, hc0⟩ := HI.out k x hx
      have hc : ∀ (j : Nat) (u : Value), (elHd.f x)[j]? = some u → w.cell? ⟨b, off + k * 5 + j, none⟩ = some u := hc0
      clear hc0
      have c0 : w'.cell? ⟨b, off + k * 5, none⟩ = some (.int .i64 x.fr) := hw.cell (hc 0 _ rfl) (fun f => f)
      have c1 : w'.cell? ⟨b, off + k * 5 + 1, none⟩ = some (.int .i64 x.to) := hw.cell (hc 1 _ rfl) (fun f => f)
      have c2 : w'.cell? ⟨b, off + k * 5 + 2, none⟩ = some (.int .i64 x.tg) := hw.cell (hc 2 _ rfl) (fun f => f)
      have c3 : w'.cell? ⟨b, off + k * 5 + 3, none⟩ = some (.int .i64 x.cl) := hw.cell (hc 3 _ rfl) (fun f => f)
      have c4 : w'.cell? ⟨b, off + k * 5 + 4, none⟩ = some (.int .i64 x.dp) := hw.cell (hc 4 _ rfl) (fun f => f)
      have HW : Hid (Fr no w w') := hw
      have A := fun w2 (f2 : Fr no w' w2) => HASK.out w2 (.slice (some ⟨b, off, none⟩) k cp) k x (hw.new f2 (fun _ _ f => f)) hx ((HS.out.kept (hw.new f2 (fun _ _ f => f))).take (by omega))
      have KS : ∀ w2, Fr no w' w2 → Fr no w' w2 ∧ w2.cell? ⟨b, off + k * 5, none⟩ = some (.int .i64 x.fr) ∧ w2.cell? ⟨b, off + k * 5 + 1, none⟩ = some (.int .i64 x.to) ∧ w2.cell? ⟨b, off + k * 5 + 2, none⟩ = some (.int .i64 x.tg) ∧ w2.cell? ⟨b, off + k * 5 + 3, none⟩ = some (.int .i64 x.cl) ∧ w2.cell? ⟨b, off + k * 5 + 4, none⟩ = some (.int .i64 x.dp) := fun w2 f2 => ⟨f2, f2.cell c0 (fun f => f), f2.cell c1 (fun f => f), f2.cell c2 (fun f => f), f2.cell c3 (fun f => f), f2.cell c4 (fun f => f)⟩
      have HX : Hid (l[k]? = some x) := hx
      have hdrop : l.drop k = x :: l.drop (k + 1) := by
        have := List.drop_eq_getElem_cons hlt
        rw [this]
        have e : l[k] = x := by
          rw [List.getElem?_eq_getElem hlt] at hx
          exact Option.some.inj hx
        rw [e]
      have HN : Hid (firstE ask [] l = if ask x (l.take k) ≠ 0 then ask x (l.take k) else firstE ask (l.take (k + 1)) (l.drop (k + 1))) := by
        show _ = _
        rw [← HFE.out, hdrop, firstE, take_next l k x hx]
      clear hx hc hw hdrop
      generalize hask : ask x (l.take k) = err at *
      by_cases h0 : err = 0
      · subst h0
        go_wp2_with fail
        go_region_held3 (fun w2 => Fr no w' w2 ∧ w2.cell? ⟨b, off + k * 5, none⟩ = some (.int .i64 x.fr) ∧ w2.cell? ⟨b, off + k * 5 + 1, none⟩ = some (.int .i64 x.to) ∧ w2.cell? ⟨b, off + k * 5 + 2, none⟩ = some (.int .i64 x.tg) ∧ w2.cell? ⟨b, off + k * 5 + 3, none⟩ = some (.int .i64 x.cl) ∧ w2.cell? ⟨b, off + k * 5 + 4, none⟩ = some (.int .i64 x.dp)) (first | exact KS _ (Fr.refl no _).drew | exact KS _ f3') (first | (go_at_call 80; refine (A _ (Fr.refl no _).drew).mono ?_; rintro e w3 ⟨rfl, f3⟩; have f3' := (Fr.refl no w').drew.new f3 (fun _ _ f => f)))
        go_wp2_with fail
        go_step3
        refine hj _ _ ⟨k + 1, _, _, _, _, _, _, _, _, _, _, _, _, _, _, _, _, _, _, _, _, _, _, _, _, _, _, _, _, rfl, by go_num, HW.out.new f3' (fun _ _ f => f), by omega, by omega, ?_⟩ ?_
        · rw [HN.out, if_neg (by simp)]
        · simp [intOf]
          omega
      · have h0' : ((err : Int) == 0) = false := by simp; omega
        have HE : Hid (eachE most ask l = err) := by show _ = _; rw [HEE.out, HN.out, if_pos h0]
        go_wp2_with fail
        go_region_held3 (fun w2 => Fr no w' w2 ∧ w2.cell? ⟨b, off + k * 5, none⟩ = some (.int .i64 x.fr) ∧ w2.cell? ⟨b, off + k * 5 + 1, none⟩ = some (.int .i64 x.to) ∧ w2.cell? ⟨b, off + k * 5 + 2, none⟩ = some (.int .i64 x.tg) ∧ w2.cell? ⟨b, off + k * 5 + 3, none⟩ = some (.int .i64 x.cl) ∧ w2.cell? ⟨b, off + k * 5 + 4, none⟩ = some (.int .i64 x.dp)) (first | exact KS _ (Fr.refl no _).drew | exact KS _ f3') (first | (go_at_call 80; refine (A _ (Fr.refl no _).drew).mono ?_; rintro e w3 ⟨rfl, f3⟩; have f3' := (Fr.refl no w').drew.new f3 (fun _ _ f => f)))
        go_wp2_with fail
        refine hr _ _ ?_
        go_ret
        rw [HE.out]
        exact ⟨rfl, HW.out.new f3' (fun _ _ f => f)⟩

def EachMsAt (w0 : World) (v : Value) (most : Int) (fv : Value) (ask : Ms → List Ms → Nat) (l : List Ms) (a : Act) (w : World) : Prop :=
  ∃ (k : Nat) (u3 u4 u5 u6 u7 u8 u9 u10 u11 u12 u13 u14 u15 u16 u17 u18 u19 u20 u21 u22 u23 u24 u25 u26 u27 u28 u29 u30 : Value), a = { tmps := #[v, .int .i64 most, fv, u3, u4, u5, u6, u7, u8, u9, u10, u11, u12, u13, u14, u15, u16, u17, u18, u19, u20, u21, u22, u23, u24, u25, u26, u27, u28, u29, u30], defers := [] } ∧ u7 = .int .i64 (k : Int) ∧ Fr no w0 w ∧ k ≤ l.length ∧ l.length ≤ most.toNat ∧ firstE ask (l.take k) (l.drop k) = firstE ask [] l

set_option maxRecDepth 100000 in
set_option maxHeartbeats 2000000 in
theorem eachMs_any (w : World) (v : Value) (l : List Ms) (h : SlG elMs w v l) (most : Nat) (hmost : most ≤ 1000) (q : Nat) (ask : Ms → List Ms → Nat)
    (ASK : ∀ w' v' k x, Fr no w w' → l[k]? = some x → SlG elMs w' v' (l.take k) → Calls Tryz.prog 45 #[.agg #[.string x.name, .slice x.p.a x.p.n x.p.c, .int .i64 x.ret.k, .string x.ret.c, .int .i64 x.lo, .int .i64 x.st, .slice x.c.a x.c.n x.c.c, .slice x.h.a x.h.n x.h.c], v', .pointer (some ⟨q, 0, none⟩)] w' fun e w2 => e = .returned (.int .i64 (ask x (l.take k) : Int)) ∧ Fr no w' w2) :
    Calls Tryz.prog 44 #[v, .int .i64 (most : Int), .func (.func 45) #[] #[.pointer (some ⟨q, 0, none⟩)]] w fun e w' => e = .returned (.int .i64 (eachE most ask l : Int)) ∧ Fr no w w' := by
  have H0 := h
  obtain ⟨ad, cp, rfl, hcap, hmx, hit⟩ := h
  unfold maxLen at hmx
  have HI : Hid (∀ (i : Nat) (x : Ms), l[i]? = some x → ∃ b off, ad = some ⟨b, off, none⟩ ∧ ∀ (j : Nat) (u : Value), (elMs.f x)[j]? = some u → w.cell? ⟨b, off + i * elMs.n + j, none⟩ = some u) := hit
  have HS : Hid (SlG elMs w (.slice ad l.length cp) l) := H0
  have HASK : Hid (∀ w' v' k x, Fr no w w' → l[k]? = some x → SlG elMs w' v' (l.take k) → Calls Tryz.prog 45 #[.agg #[.string x.name, .slice x.p.a x.p.n x.p.c, .int .i64 x.ret.k, .string x.ret.c, .int .i64 x.lo, .int .i64 x.st, .slice x.c.a x.c.n x.c.c, .slice x.h.a x.h.n x.h.c], v', .pointer (some ⟨q, 0, none⟩)] w' fun e w2 => e = .returned (.int .i64 (ask x (l.take k) : Int)) ∧ Fr no w' w2) := ASK
  clear hit H0 ASK
  go_enter Tryz.func44, Tryz.ntmps44
  go_wp2_with fail
  refine wp_label_one 0 (EachMsAt w (.slice ad l.length cp) (most : Int) (.func (.func 45) #[] #[.pointer (some ⟨q, 0, none⟩)]) ask l) (fun a' _ => l.length - (intOf (a'.tmps.getD 7 undef)).toNat) rfl ?_ ?_
  · intro K h0 hr hn'
    by_cases hbig : most < l.length
    · have HE : Hid (eachE most ask l = 32) := by show _ = _; unfold eachE; rw [if_pos hbig]
      go_wp2_with fail
      refine hr _ _ ?_
      go_ret
      rw [HE.out]
      exact ⟨rfl, Fr.refl _ _⟩
    · have hbig' : ¬ (most : Int) < (l.length : Int) := by omega
      go_wp2_with fail
      go_step3
      rename_i hk
      exact hk _ _ (h0 _ _ ⟨0, _, _, _, _, _, _, _, _, _, _, _, _, _, _, _, _, _, _, _, _, _, _, _, _, _, _, _, _, rfl, rfl, Fr.refl _ _, by omega, by omega, rfl⟩)
  · rintro a' w' ⟨k, u3, u4, u5, u6, u7, u8, u9, u10, u11, u12, u13, u14, u15, u16, u17, u18, u19, u20, u21, u22, u23, u24, u25, u26, u27, u28, u29, u30, rfl, rfl, hw, hk, hlm, hF⟩ K hj hr hn'
    have HFE : Hid (firstE ask (l.take k) (l.drop k) = firstE ask [] l) := hF
    have HEE : Hid (eachE most ask l = firstE ask [] l) := by show _ = _; unfold eachE; rw [if_neg (by omega)]
    clear hF
    by_cases hend : k = l.length
    · subst hend
      have HE : Hid (eachE most ask l = 0) := by
        show _ = _
        rw [HEE.out, ← HFE.out, List.drop_length]
        rfl
      go_wp2_with fail
      refine hr _ _ ?_
      go_ret
      rw [HE.out]
      exact ⟨rfl, hw⟩
    · have hlt : k < l.length := by omega
      have hne : ((k : Int) == (l.length : Int)) = false := by simp; omega
      have hkc : (k : Int) ≤ (cp : Int) := by omega
      have hk0 : (0 : Int) ≤ (k : Int) := by omega
      obtain ⟨x, hx⟩ : ∃ x, l[k]? = some x := ⟨_, List.getElem?_eq_getElem hlt⟩
      obtain ⟨b, off, rfl, hc0⟩ := HI.out k x hx
      have hc : ∀ (j : Nat) (u : Value), (elMs.f x)[j]? = some u → w.cell? ⟨b, off + k * 8 + j, none⟩ = some u := hc0
      clear hc0
      have c0 : w'.cell? ⟨b, off + k * 8, none⟩ = some (.string x.name) := hw.cell (hc 0 _ rfl) (fun f => f)
      have c1 : w'.cell? ⟨b, off + k * 8 + 1, none⟩ = some (.slice x.p.a x.p.n x.p.c) := hw.cell (hc 1 _ rfl) (fun f => f)
      have c2 : w'.cell? ⟨b, off + k * 8 + 2, none⟩ = some (.int .i64 x.ret.k) := hw.cell (hc 2 _ rfl) (fun f => f)
      have c3 : w'.cell? ⟨b, off + k * 8 + 3, none⟩ = some (.string x.ret.c) := hw.cell (hc 3 _ rfl) (fun f => f)
      have c4 : w'.cell? ⟨b, off + k * 8 + 4, none⟩ = some (.int .i64 x.lo) := hw.cell (hc 4 _ rfl) (fun f => f)
      have c5 : w'.cell? ⟨b, off + k * 8 + 5, none⟩ = some (.int .i64 x.st) := hw.cell (hc 5 _ rfl) (fun f => f)
      have c6 : w'.cell? ⟨b, off + k * 8 + 6, none⟩ = some (.slice x.c.a x.c.n x.c.c) := hw.cell (hc 6 _ rfl) (fun f => f)
      have c7 : w'.cell? ⟨b, off + k * 8 + 7, none⟩ = some (.slice x.h.a x.h.n x.h.c) := hw.cell (hc 7 _ rfl) (fun f => f)
      have HW : Hid (Fr no w w') := hw
      have A := fun w2 (f2 : Fr no w' w2) => HASK.out w2 (.slice (some ⟨b, off, none⟩) k cp) k x (hw.new f2 (fun _ _ f => f)) hx ((HS.out.kept (hw.new f2 (fun _ _ f => f))).take (by omega))
      have KS : ∀ w2, Fr no w' w2 → Fr no w' w2 ∧ w2.cell? ⟨b, off + k * 8, none⟩ = some (.string x.name) ∧ w2.cell? ⟨b, off + k * 8 + 1, none⟩ = some (.slice x.p.a x.p.n x.p.c) ∧ w2.cell? ⟨b, off + k * 8 + 2, none⟩ = some (.int .i64 x.ret.k) ∧ w2.cell? ⟨b, off + k * 8 + 3, none⟩ = some (.string x.ret.c) ∧ w2.cell? ⟨b, off + k * 8 + 4, none⟩ = some (.int .i64 x.lo) ∧ w2.cell? ⟨b, off + k * 8 + 5, none⟩ = some (.int .i64 x.st) ∧ w2.cell? ⟨b, off + k * 8 + 6, none⟩ = some (.slice x.c.a x.c.n x.c.c) ∧ w2.cell? ⟨b, off + k * 8 + 7, none⟩ = some (.slice x.h.a x.h.n x.h.c) := fun w2 f2 => ⟨f2, f2.cell c0 (fun f => f), f2.cell c1 (fun f => f), f2.cell c2 (fun f => f), f2.cell c3 (fun f => f), f2.cell c4 (fun f => f), f2.cell c5 (fun f => f), f2.cell c6 (fun f => f), f2.cell c7 (fun f => f)⟩
      have HX : Hid (l[k]? = some x) := hx
      have hdrop : l.drop k = x :: l.drop (k + 1) := by
        have := List.drop_eq_getElem_cons hlt
        rw [this]
        have e : l[k] = x := by
          rw [List.getElem?_eq_getElem hlt] at hx
          exact Option.some.inj hx
        rw [e]
      have HN : Hid (firstE ask [] l = if ask x (l.take k) ≠ 0 then ask x (l.take k) else firstE ask (l.take (k + 1)) (l.drop (k + 1))) := by
        show _ = _
        rw [← HFE.out, hdrop, firstE, take_next l k x hx]
      clear hx hc hw hdrop
      generalize hask : ask x (l.take k) = err at *
      by_cases h0 : err = 0
      · subst h0
        go_wp2_with fail
        go_region_held3 (fun w2 => Fr no w' w2 ∧ w2.cell? ⟨b, off + k * 8, none⟩ = some (.string x.name) ∧ w2.cell? ⟨b, off + k * 8 + 1, none⟩ = some (.slice x.p.a x.p.n x.p.c) ∧ w2.cell? ⟨b, off + k * 8 + 2, none⟩ = some (.int .i64 x.ret.k) ∧ w2.cell? ⟨b, off + k * 8 + 3, none⟩ = some (.string x.ret.c) ∧ w2.cell? ⟨b, off + k * 8 + 4, none⟩ = some (.int .i64 x.lo) ∧ w2.cell? ⟨b, off + k * 8 + 5, none⟩ = some (.int .i64 x.st) ∧ w2.cell? ⟨b, off + k * 8 + 6, none⟩ = some (.slice x.c.a x.c.n x.c.c) ∧ w2.cell? ⟨b, off + k * 8 + 7, none⟩ = some (.slice x.h.a x.h.n x.h.c)) (first | exact KS _ (Fr.refl no _).drew | exact KS _ f3') (first | (go_at_call 45; refine (A _ (Fr.refl no _).drew).mono ?_; rintro e w3 ⟨rfl, f3⟩; have f3' := (Fr.refl no w').drew.new f3 (fun _ _ f => f)))
        go_wp2_with fail
        go_step3
        refine hj _ _ ⟨k + 1, _, _, _, _, _, _, _, _, _, _, _, _, _, _, _, _, _, _, _, _, _, _, _, _, _, _, _, _, rfl, by go_num, HW.out.new f3' (fun _ _ f => f), by omega, by omega, ?_⟩ ?_
        · rw [HN.out, if_neg (by simp)]
        · simp [intOf]
          omega
      · have h0' : ((err : Int) == 0) = false := by simp; omega
        have HE : Hid (eachE most ask l = err) := by show _ = _; rw [HEE.out, HN.out, if_pos h0]
        go_wp2_with fail
        go_region_held3 (fun w2 => Fr no w' w2 ∧ w2.cell? ⟨b, off + k * 8, none⟩ = some (.string x.name) ∧ w2.cell? ⟨b, off + k * 8 + 1, none⟩ = some (.slice x.p.a x.p.n x.p.c) ∧ w2.cell? ⟨b, off + k * 8 + 2, none⟩ = some (.int .i64 x.ret.k) ∧ w2.cell? ⟨b, off + k * 8 + 3, none⟩ = some (.string x.ret.c) ∧ w2.cell? ⟨b, off + k * 8 + 4, none⟩ = some (.int .i64 x.lo) ∧ w2.cell? ⟨b, off + k * 8 + 5, none⟩ = some (.int .i64 x.st) ∧ w2.cell? ⟨b, off + k * 8 + 6, none⟩ = some (.slice x.c.a x.c.n x.c.c) ∧ w2.cell? ⟨b, off + k * 8 + 7, none⟩ = some (.slice x.h.a x.h.n x.h.c)) (first | exact KS _ (Fr.refl no _).drew | exact KS _ f3') (first | (go_at_call 45; refine (A _ (Fr.refl no _).drew).mono ?_; rintro e w3 ⟨rfl, f3⟩; have f3' := (Fr.refl no w').drew.new f3 (fun _ _ f => f)))
        go_wp2_with fail
        refine hr _ _ ?_
        go_ret
        rw [HE.out]
        exact ⟨rfl, HW.out.new f3' (fun _ _ f => f)⟩
end Go.Proofs.YtpfkigoffllieaaGreatDoor
