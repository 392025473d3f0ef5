/- What num.Print answers: for every integer its decimal text; it makes new memory alone. -/
import Derived.Test.YtkeadhplijclcaaRows
import Derived.Test.YtkeadhplijclcaaMath
import Derived.Test.YtkeadhplijclcaaScope
import Derived.WalkKit
import Derived.ProofKit
import Derived.OpenShut
import Derived.WalkLawsBesides
import Derived.WalkMore
import Derived.Laws.BytesArg
namespace Go.Proofs.Ytkeadhplijclcaa
open Go.ChangeShapes Go.WideShapes Go.ChangeAt Go.RowKit

theorem grown_trans {a b c : World} (h : Grown a b) (k : Grown b c) : Grown a c :=
  ⟨World.keptBut_trans h.1 k.1, fun x => (k.2.1 x).trans (h.2.1 x), Nat.le_trans h.2.2 k.2.2⟩

/-- The array's cells when the last of them hold these letters. -/
def fcells (l : List Nat) : Array Value := (List.replicate (20 - l.length) (Value.int .u8 0) ++ l.map (fun c : Nat => Value.int .u8 (c : Int))).toArray

theorem fcells_at (l : List Nat) (h : l.length < 20) : (fcells l)[20 - l.length - 1]? = some (.int .u8 0) := by
  unfold fcells
  rw [List.getElem?_toArray, List.getElem?_append_left (by simp; omega), List.getElem?_replicate, if_pos (by omega)]

theorem fcells_set (l : List Nat) (h : l.length < 20) (c : Nat) : (fcells l).setIfInBounds (20 - l.length - 1) (.int .u8 (c : Int)) = fcells (c :: l) := by
  unfold fcells
  rw [List.setIfInBounds_toArray]
  congr 1
  obtain ⟨k, hk⟩ : ∃ k, 20 - l.length = k + 1 := ⟨19 - l.length, by omega⟩
  have e2 : 20 - (c :: l).length = k := by simp; omega
  rw [hk, e2, List.replicate_succ', List.append_assoc, List.set_append_right _ _ (by simp)]
  simp

theorem fcells_tail (l : List Nat) (i : Nat) (hi : i < l.length) : (fcells l)[20 - l.length + i]? = some (.int .u8 ((l.map (fun c : Nat => (c : Int))).getD i 0)) := by
  unfold fcells
  rw [List.getElem?_toArray, List.getElem?_append_right (by simp)]
  simp [hi]

theorem slice_text (b k : Nat) (x : Int) (hx : x = (k : Int)) (hk : k < 20) (W : World) :
    (Instr.sliceAt 40 (.pointer (some ⟨b, 0, none⟩)) (some (.int .i64 x)) none none).run Try.prog W = .ok (.slice (some ⟨b, k, none⟩) (20 - k) (20 - k)) W := by
  subst hx
  have e : Try.prog.arrayLen 40 = 20 := by kernel_rfl
  rw [run_sliceAt_array_l W 40 _ (by kernel_rfl) .i64 (k : Int) (by omega) (by rw [e]; omega), e]
  have es : (sizeOf (Try.prog.elem 40)).run Try.prog W = .ok 1 W := by kernel_rfl
  rw [es]
  simp only [Result.andThen, slicedAt, Int.toNat_natCast]
  rw [if_neg (by omega)]
  simp [Addr.add]
  exact fun h => h.symm

theorem conv_text (w : World) (l : List Nat) (k n c : Nat) (hk : k = 20 - l.length) (hn : n = l.length) :
    (convert 41 9 (.slice (some ⟨w.heap.size, k, none⟩) n c)).run Try.prog (w.alloc (.cells (fcells l) 40)) = .ok (.string (bstr l)) (w.alloc (.cells (fcells l) 40)) := by
  subst hk hn
  rw [run_convert_bytes_arg (P := Try.prog) (w.alloc (.cells (fcells l) 40)) 41 5 Try.underlying41 Try.underlying5 w.heap.size (20 - l.length) l.length c (l.map (fun c : Nat => (c : Int))) (by simp) (fun i hi => by
    rw [World.cell?_alloc_at _ _ _ _ rfl]; exact fcells_tail l i hi) 9 Try.underlying9]
  unfold strOfNums bstr
  simp [Function.comp_def]

/-- What holds at the label: the letters so far, and what is left. -/
def PrintAt (n : Int) (w : World) (a' : Act) (w' : World) : Prop :=
  ∃ (l : List Nat) (r : Nat) (v4 v5 u6 u7 u8 u9 u10 u11 u12 u13 u14 u15 u16 u17 u18 u19 u20 u21 u22 u23 u24 u25 u26 u27 u28 u29 u30 u31 u32 : Value),
    a' = { tmps := #[.int .i64 n, undef, .string { data := #[] }, .pointer (some ⟨w.heap.size, 0, none⟩), v4, v5, u6, u7, u8, u9, u10, u11, u12, u13, u14, u15, u16, u17, u18, u19, u20, u21, u22, u23, u24, u25, u26, u27, u28, u29, u30, u31, u32], defers := [] } ∧
    v4 = .int .i64 (20 - (l.length : Int)) ∧ v5 = .int .u64 (r : Int) ∧ w' = w.alloc (.cells (fcells l) 40) ∧ (digs r).map (48 + ·) ++ l = (digs n.natAbs).map (48 + ·)

theorem left_len {n : Int} {r : Nat} {l : List Nat} (hn : rng n) (hd : (digs r).map (48 + ·) ++ l = (digs n.natAbs).map (48 + ·)) : l.length + 1 ≤ 19 ∧ (r : Int) ≤ 9223372036854775808 := by
  have h1 := digs_top n hn
  have e := congrArg List.length hd
  have hpos : 0 < (digs r).length := List.length_pos_iff.2 (digs_ne r)
  have e2 := congrArg (fun l => worth (l.map (· - 48))) hd
  simp only [List.map_append, map48, worth_digs] at e2
  have := worth_append_le (digs r) (l.map (· - 48))
  rw [worth_digs] at this
  unfold rng at hn
  simp at e
  omega

set_option maxHeartbeats 400000 in
theorem print_any (n : Int) (hn : rng n) (w : World) : Calls Try.prog 25 #[.int .i64 n] w fun e w' => e = .returned (.string (bstr (tx n))) ∧ Grown w w' := by
  go_enter Try.func25, Try.ntmps25
  go_wp2
  refine wp_label_one 0 (PrintAt n w) (fun a' _ => (intOf (a'.tmps.getD 4 undef)).toNat) rfl ?_ ?_
  · intro K h0 hr
    by_cases hneg : n < 0
    · have e1 : IntKind.u64.wrap (-IntKind.u64.wrap n) = (n.natAbs : Int) := by
        unfold rng at hn
        simp [IntKind.wrap, IntKind.signed, IntKind.bits]
        omega
      go_wp2
      go_step3
      rename_i hk
      refine hk _ _ (h0 _ _ ?_)
      exact ⟨[], n.natAbs, _, _, _, _, _, _, _, _, _, _, _, _, _, _, _, _, _, _, _, _, _, _, _, _, _, _, _, _, _, rfl, rfl, rfl, rfl, by simp⟩
    · have e1 : IntKind.u64.wrap n = (n.natAbs : Int) := by
        unfold rng at hn
        simp [IntKind.wrap, IntKind.signed, IntKind.bits]
        omega
      go_wp2
      go_step3
      rename_i hk
      refine hk _ _ (h0 _ _ ?_)
      exact ⟨[], n.natAbs, _, _, _, _, _, _, _, _, _, _, _, _, _, _, _, _, _, _, _, _, _, _, _, _, _, _, _, _, _, rfl, rfl, rfl, rfl, by simp⟩
  · rintro a' w' ⟨l, r, v4, v5, u6, u7, u8, u9, u10, u11, u12, u13, u14, u15, u16, u17, u18, u19, u20, u21, u22, u23, u24, u25, u26, u27, u28, u29, u30, u31, u32, rfl, rfl, rfl, rfl, hd⟩ K hj hr
    obtain ⟨hlen, hrb⟩ := left_len hn hd
    have hc1 := fcells_at l (by omega)
    have hs1 : (fcells l).setIfInBounds (20 - l.length - 1) (.int .u8 (48 + (r : Int) % 10)) = fcells ((48 + r % 10) :: l) := by
      rw [← fcells_set l (by omega) (48 + r % 10)]; simp
    have HD : Hid ((digs r).map (48 + ·) ++ l = (digs n.natAbs).map (48 + ·)) := hd
    clear hd
    by_cases hq : 10 ≤ r
    · go_wp2
      go_step3
      have hd2 : (digs (r / 10)).map (48 + ·) ++ ((48 + r % 10) :: l) = (digs n.natAbs).map (48 + ·) := by
        rw [← HD.out, digs_great (n := r) (by omega)]; simp
      refine hj _ _ ?_ ?_
      · have e1 : (20 : Int) - (l.length : Int) - 1 = (20 : Int) - (((48 + r % 10) :: l).length : Int) := by simp; omega
        exact ⟨(48 + r % 10) :: l, r / 10, _, _, _, _, _, _, _, _, _, _, _, _, _, _, _, _, _, _, _, _, _, _, _, _, _, _, _, _, _, rfl, by rw [e1], by simp, rfl, hd2⟩
      · simp [intOf]; omega
    · have hd2 : (48 + r % 10) :: l = (digs n.natAbs).map (48 + ·) := by
        rw [← HD.out, digs_small (n := r) (by omega)]; simp; omega
      have HT : Hid ((48 + r % 10) :: l = (digs n.natAbs).map (48 + ·)) := hd2
      clear hd2
      have hsl := slice_text w.heap.size (20 - l.length - 1) (20 - (l.length : Int) - 1) (by omega) (by omega)
      have hsl2 := slice_text w.heap.size (20 - l.length - 1 - 1) (20 - (l.length : Int) - 1 - 1) (by omega) (by omega)
      by_cases hneg : n < 0
      · have hc2 : (fcells ((48 + r % 10) :: l))[20 - l.length - 1 - 1]? = some (.int .u8 0) := by
          have := fcells_at ((48 + r % 10) :: l) (by simp; omega)
          rw [← this]; congr 1
        have hs2 : (fcells ((48 + r % 10) :: l)).setIfInBounds (20 - l.length - 1 - 1) (.int .u8 45) = fcells (45 :: (48 + r % 10) :: l) := by
          have := fcells_set ((48 + r % 10) :: l) (by simp; omega) 45
          rw [← this]; congr 1
        have hcv := conv_text w (45 :: (48 + r % 10) :: l) (20 - l.length - 1 - 1) (20 - (20 - l.length - 1 - 1)) (20 - (20 - l.length - 1 - 1)) (by simp; omega) (by simp; omega)
        have ht : tx n = 45 :: (48 + r % 10) :: l := by unfold tx; rw [if_pos hneg, ← HT.out]; rfl
        have HX : Hid (tx n = 45 :: (48 + r % 10) :: l) := ht
        clear ht
        go_wp2
        go_ret
        exact ⟨by rw [HX.out]; rfl, (Grown.refl _).alloc _ _⟩
      · have hcv := conv_text w ((48 + r % 10) :: l) (20 - l.length - 1) (20 - (20 - l.length - 1)) (20 - (20 - l.length - 1)) (by simp; omega) (by simp; omega)
        have ht : tx n = (48 + r % 10) :: l := by unfold tx; rw [if_neg hneg, ← HT.out]; rfl
        have HX : Hid (tx n = (48 + r % 10) :: l) := ht
        clear ht
        go_wp2
        go_ret
        exact ⟨by rw [HX.out]; rfl, (Grown.refl _).alloc _ _⟩
end Go.Proofs.Ytkeadhplijclcaa
