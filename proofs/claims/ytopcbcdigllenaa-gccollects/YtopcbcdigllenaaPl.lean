/- An object is placed in a free block. -/
import Derived.Test.YtopcbcdigllenaaAlo
namespace Go.Proofs.Ytopcbcdigllenaa
open Go.ChangeShapes Go.WideShapes Go.ChangeAt Go.RowKit

theorem cgU (l : List Nat) : cg elU l = l.map (fun n : Nat => Value.int .u64 (n : Int)) := by
  induction l with
  | nil => rfl
  | cons y l ih =>
    have : cg elU (y :: l) = elU.f y ++ cg elU l := rfl
    rw [this, ih]
    rfl

/-- Some words become nought. -/
def wipe (W : List Nat) (o n : Nat) : List Nat := W.take o ++ List.replicate n 0 ++ W.drop (o + n)

theorem clear_any {w : World} {p g : Nat} {W : List Nat} (h : HW w p g W) (o n c : Nat) (ho : o + n ≤ W.length) :
    ∃ w', (∀ ty, (Builtin.clear_ #[38] ty #[.slice (some ⟨g, o, none⟩) n c]).run Try.prog w = .ok (.tuple #[]) w') ∧ HW w' p g (wipe W o n) ∧ Fr (fun k => k = g) w w' := by
  have hz : ∀ w, (zeroValue 28).run Try.prog w = .ok (.int .u64 0) w := fun w => by kernel_rfl
  have hc : (Builtin.zeroCells (Value.int .u64 0).cells n).toList = List.replicate n (Value.int .u64 0) := by
    have e : (Value.int .u64 0).cells = #[Value.int .u64 0] := rfl
    rw [e]
    simp [Builtin.zeroCells]
    apply List.ext_getElem
    · simp
    · intro i h1 h2
      simp [Nat.mod_one]
  have hst := run_storeCells_at Try.prog g o 28 (List.replicate n (Value.int .u64 0)) 0 (cg elU W).toArray w h.row (by rw [List.size_toArray, cgU]; simp; omega) (by intro v hv; rw [List.eq_of_mem_replicate hv]; rfl)
  simp only [Nat.add_zero] at hst
  have hw : (cg elU W).toArray.toList.take o ++ List.replicate n (Value.int .u64 0) ++ (cg elU W).toArray.toList.drop (o + (List.replicate n (Value.int .u64 0)).length) = cg elU (wipe W o n) := by
    simp [wipe, cgU, List.map_take, List.map_drop]
  rw [hw] at hst
  have hlen : (wipe W o n).length = W.length := by simp [wipe]; omega
  cases n with
  | zero =>
    have hW : wipe W o 0 = W := by simp [wipe]
    refine ⟨w, fun ty => ?_, by rw [hW]; exact h, Fr.refl _ _⟩
    simp [Builtin.clear_, run_underlying Try.underlying38]
  | succ n =>
    refine ⟨_, fun ty => ?_, ⟨?_, setRow_heap w g _ _ _ _ h.row, by rw [hlen]; exact h.len⟩, ⟨rfl, rfl, by rw [setRow_size]; exact Nat.le_refl _, fun k hk hs => setRow_other w g k _ hs, fun a _ => frozen_setRow w g _ a⟩⟩
    · simp [Builtin.clear_, run_underlying Try.underlying38, hz, hc, hst]
    · rw [setRow_other w g p _ h.ne, hlen]
      exact h.hd

theorem set_at {α : Type} (P r : List α) (h x : α) : (P ++ h :: r).set P.length x = P ++ x :: r := by
  rw [List.set_append_right _ _ (Nat.le_refl _), Nat.sub_self]
  rfl

theorem wipe_at (P b T : List Nat) (h c : Nat) : wipe (P ++ h :: c :: (b ++ T)) (P.length + 2) b.length = P ++ h :: c :: (List.replicate b.length 0 ++ T) := by
  unfold wipe
  rw [List.take_append, List.drop_append, List.take_of_length_le (by omega), List.drop_of_length_le (by omega)]
  simp [show P.length + 2 - P.length = 2 by omega, show P.length + 2 + b.length - P.length = b.length + 2 by omega]

theorem carve_none (pre post : List Blk) (j : List Nat) (c n : Nat) (hj : j.length = n + 1) :
    wipe (((flat (pre ++ .free j :: post)).set (siz pre) (2 * (n + 2) + 1)).set (siz pre + 1) c) (siz pre + 2) n = flat (pre ++ carve c n j ++ post) := by
  obtain ⟨x, b, rfl⟩ : ∃ x b, j = x :: b := by
    cases j with
    | nil => simp at hj
    | cons x b => exact ⟨x, b, rfl⟩
  have hb : b.length = n := by simpa using hj
  subst hb
  have e1 : flat (pre ++ .free (x :: b) :: post) = flat pre ++ (2 * (b.length + 1 + 1)) :: x :: (b ++ flat post) := by simp [flat_append, flat_cons, Blk.words]
  rw [e1]
  unfold siz
  rw [set_at]
  have e2 := set_at (flat pre ++ [2 * (b.length + 2) + 1]) (b ++ flat post) x c
  simp only [List.append_assoc, List.singleton_append, List.length_append, List.length_singleton] at e2
  rw [e2, wipe_at]
  simp [flat_append, flat_cons, Blk.words, carve]

theorem carve_some (pre post : List Blk) (j : List Nat) (c n : Nat) (hj : n + 1 < j.length) :
    wipe ((((flat (pre ++ .free j :: post)).set (siz pre + (n + 2)) (2 * (j.length - n - 1))).set (siz pre) (2 * (n + 2) + 1)).set (siz pre + 1) c) (siz pre + 2) n = flat (pre ++ carve c n j ++ post) := by
  obtain ⟨x, b, y, e, rfl, hb⟩ : ∃ x b y e, j = x :: (b ++ y :: e) ∧ b.length = n := by
    cases j with
    | nil => simp at hj
    | cons x l =>
      have hl : n < l.length := by simpa using hj
      refine ⟨x, l.take n, l[n], l.drop (n + 1), ?_, by simp; omega⟩
      rw [List.getElem_cons_drop, List.take_append_drop]
  subst hb
  have e1 : flat (pre ++ .free (x :: (b ++ y :: e)) :: post) = flat pre ++ (2 * (b.length + (e.length + 1) + 1 + 1)) :: x :: (b ++ (y :: e ++ flat post)) := by simp [flat_append, flat_cons, Blk.words]
  have e3 : (x :: (b ++ y :: e)).length - b.length - 1 = e.length + 1 := by simp; omega
  rw [e1, e3]
  unfold siz
  have e4 := set_at (flat pre ++ (2 * (b.length + (e.length + 1) + 1 + 1)) :: x :: b) (e ++ flat post) y (2 * (e.length + 1))
  simp only [List.append_assoc, List.cons_append, List.length_append, List.length_cons] at e4
  rw [show (flat pre).length + (b.length + 2) = (flat pre).length + (b.length + 1 + 1) by omega]
  rw [List.cons_append, e4, set_at]
  have e2 := set_at (flat pre ++ [2 * (b.length + 2) + 1]) (b ++ 2 * (e.length + 1) :: (e ++ flat post)) x c
  simp only [List.append_assoc, List.singleton_append, List.length_append, List.length_singleton] at e2
  rw [e2, wipe_at]
  have e5 : (x :: (b ++ y :: e)).length ≠ b.length + 1 := by simp
  have e6 : (x :: (b ++ y :: e)).drop (b.length + 2) = e := by
    rw [List.drop_succ_cons, List.drop_append, List.drop_of_length_le (by omega)]
    simp
  simp only [carve, if_neg e5, e6]
  simp [flat_append, flat_cons, Blk.words]

/-- The slice of so many words from one on, and that it is cleared. -/
theorem cut_any {w : World} {p g : Nat} {W : List Nat} (h : HW w p g W) (o n : Nat) (ho : o + n ≤ W.length) :
    ∃ sv, (∀ w', (Instr.slice 38 (.slice (some ⟨g, 0, none⟩) W.length W.length) (some (.int .i64 (o : Int))) (some (.int .i64 ((o : Int) + (n : Int)))) none).run Try.prog w' = .ok sv w') ∧
      (∀ w', (Instr.sliceAt 38 (.slice (some ⟨g, 0, none⟩) W.length W.length) (some (.int .i64 (o : Int))) (some (.int .i64 ((o : Int) + (n : Int)))) none).run Try.prog w' = .ok sv w') ∧
      ∃ w5, (∀ ty, (Builtin.clear_ #[38] ty #[sv]).run Try.prog w = .ok (.tuple #[]) w5) ∧ HW w5 p g (wipe W o n) ∧ Fr (fun k => k = g) w w5 := by
  obtain ⟨i0, hi, hz0, hz1, hz2⟩ := info_parts elU_ok.info
  have hz1' : i0.size = 1 := hz1
  have hu : Try.prog.underlying 38 = some (.slice (Try.prog.elem 38)) := by kernel_rfl
  have he : Try.prog.elem 38 = 28 := by kernel_rfl
  have hi' : Try.prog.info? 28 = some i0 := hi
  have R : ∀ w', (Instr.slice 38 (.slice (some ⟨g, 0, none⟩) W.length W.length) (some (.int .i64 (o : Int))) (some (.int .i64 ((o : Int) + (n : Int)))) none).run Try.prog w' = .ok (sliced (some ⟨g, 0, none⟩) o (o + n) W.length 1) w' := by
    intro w'
    rw [run_slice_lh (P := Try.prog) w' 38 (some ⟨g, 0, none⟩) W.length W.length hu .i64 .i64 (o : Int) ((o : Int) + (n : Int)) (by omega) (by omega) (by omega), he]
    have e : ((o : Int) + (n : Int)).toNat = o + n := by omega
    simp [sizeOf, typeInfo, hi', hz1', e]
  refine ⟨_, R, fun w' => ?_, ?_⟩
  · rw [run_sliceAt_slice (P := Try.prog) w' 38 _ _ _ _ hu]
    exact R w'
  · unfold sliced
    by_cases hq : W.length = o
    · rw [if_pos hq]
      obtain rfl : n = 0 := by omega
      have hW : wipe W o 0 = W := by simp [wipe]
      refine ⟨w, fun ty => ?_, by rw [hW]; exact h, Fr.refl _ _⟩
      simp [Builtin.clear_, run_underlying Try.underlying38]
    · rw [if_neg hq]
      obtain ⟨w5, h1, h2, h3⟩ := clear_any h o n (W.length - o) ho
      refine ⟨w5, fun ty => ?_, h2, h3⟩
      have := h1 ty
      simpa [Addr.add_lit] using this

theorem wordOf_z (w : World) (k : Nat) (i : Int) (hk : k < 4000) (h0 : 0 ≤ i) (hi : i < 4000) : Calls Try.prog 44 #[.int .i64 ((k : Int) + 1), .int .i64 i] w fun e w' => e = .returned (.int .i64 ((k : Int) + 2 + i)) ∧ w' = w := by
  obtain ⟨n, rfl⟩ : ∃ n : Nat, i = (n : Int) := ⟨i.toNat, by omega⟩
  have := wordOf_any w k n hk (by omega)
  rw [show ((k + 2 + n : Nat) : Int) = (k : Int) + 2 + (n : Int) by omega] at this
  exact this

set_option maxRecDepth 100000 in
set_option maxHeartbeats 2000000 in
theorem place_any (w : World) (p g : Nat) (pre post : List Blk) (j : List Nat) (h : HP w p g (pre ++ .free j :: post)) (c n : Nat) (hc : c < 9223372036854775808) (hj : n + 1 ≤ j.length) :
    Calls Try.prog 38 #[.pointer (some ⟨p, 0, none⟩), .int .i64 ((siz pre : Int) + 1), .int .i64 (c : Int), .int .i64 (n : Int)] w fun e w' => e = .returned (.tuple #[]) ∧ HP w' p g (pre ++ carve c n j ++ post) ∧ Fr (fun k => k = g) w w' := by
  have hl := h.len
  have hsz : siz pre + (j.length + 1) ≤ (flat (pre ++ .free j :: post)).length := siz_le (pre := pre) (b := .free j) (post := post) (Nat.le_refl _)
  have LO := length_any w p g _ h (siz pre) (j.length + 1) 0 (flat_head pre (.free j) post) (by omega) (by omega)
  have HH : Hid (HP w p g (pre ++ .free j :: post)) := h
  have CN : Hid (j.length = n + 1 → wipe (((flat (pre ++ .free j :: post)).set (siz pre) (2 * (n + 2) + 1)).set (siz pre + 1) c) (siz pre + 2) n = flat (pre ++ carve c n j ++ post)) := carve_none pre post j c n
  have CS : Hid (n + 1 < j.length → wipe ((((flat (pre ++ .free j :: post)).set (siz pre + (n + 2)) (2 * (j.length - n - 1))).set (siz pre) (2 * (n + 2) + 1)).set (siz pre + 1) c) (siz pre + 2) n = flat (pre ++ carve c n j ++ post)) := carve_some pre post j c n
  unfold HP at HH ⊢
  generalize flat (pre ++ .free j :: post) = W at *
  generalize flat (pre ++ carve c n j ++ post) = X at *
  generalize siz pre = o at *
  generalize j.length = d at *
  have hwr : IntKind.u64.wrap (c : Int) = (c : Int) := by rw [IntKind.wrap_u64]; omega
  -- from the second lay on
  have TAIL : Hid (∀ (w3 : World) (V : List Nat), HW w3 p g V → V.length = W.length → wipe (V.set (o + 1) c) (o + 2) n = X → Fr (fun k => k = g) w w3 →
      (w3.cell? ⟨p, 0, none⟩ = some (.slice (some ⟨g, 0, none⟩) W.length W.length)) ∧ (∃ x, w3.cell? ⟨g, o + 1, none⟩ = some x) ∧ w3.frozen? ⟨g, o + 1, none⟩ = false ∧ ((w3.setCell ⟨g, o + 1, none⟩ (.int .u64 (c : Int))).drew.cell? ⟨p, 0, none⟩ = some (.slice (some ⟨g, 0, none⟩) W.length W.length)) ∧ ∃ sv, (∀ w', (Instr.slice 38 (.slice (some ⟨g, 0, none⟩) W.length W.length) (some (.int .i64 ((o : Int) + 2))) (some (.int .i64 ((o : Int) + 2 + (n : Int)))) none).run Try.prog w' = .ok sv w') ∧
      (∀ w', (Instr.sliceAt 38 (.slice (some ⟨g, 0, none⟩) W.length W.length) (some (.int .i64 ((o : Int) + 2))) (some (.int .i64 ((o : Int) + 2 + (n : Int)))) none).run Try.prog w' = .ok sv w') ∧ ∃ w5, (∀ ty, (Builtin.clear_ #[38] ty #[sv]).run Try.prog ((w3.setCell ⟨g, o + 1, none⟩ (.int .u64 (c : Int))).drew.drew) = .ok (.tuple #[]) w5) ∧ HW w5 p g X ∧ Fr (fun k => k = g) w w5) := by
    intro w3 V h3 hV hX hf
    have hlt : o + 1 < V.length := by omega
    refine ⟨by rw [← hV]; exact h3.cell, ⟨_, h3.word (List.getElem?_eq_getElem hlt)⟩, h3.thaw _, ?_⟩
    obtain ⟨h4, f4⟩ := h3.set (o + 1) c
    obtain ⟨sv, hs1, hs2, w5, hr, h5, f5⟩ := cut_any (h4.drewN 2) (o + 2) n (by simp; omega)
    rw [hX] at h5
    have e1 : ((o + 2 : Nat) : Int) = (o : Int) + 2 := by omega
    have e2 : (V.set (o + 1) c).length = W.length := by simp [hV]
    rw [e1, e2] at hs1 hs2
    exact ⟨(h4.drewN 1).cell.trans (by simp [hV]), sv, hs1, hs2, w5, hr, h5, (hf.trans (f4.drewN 2) (fun _ _ x => x) (fun _ _ x => x)).trans f5 (fun _ _ x => x) (fun _ _ x => x)⟩
  have LY := fun (w1 : World) (V : List Nat) (h1 : HW w1 p g V) (k n t : Nat) (hk : k < V.length) (hn : n ≤ 4096) (ht : t ≤ 1) => lay_any w1 p g V h1 k n t hk hn ht
  by_cases hd : d = n + 1
  · have X1 := CN.out hd
    clear CN CS
    have L1 : ∀ m, Calls Try.prog 36 #[.pointer (some ⟨p, 0, none⟩), .int .i64 ((o : Int) + 1), .int .i64 ((n : Int) + 2), .int .u64 1] (w.drewN m) fun e w' => e = .returned (.tuple #[]) ∧ HW w' p g (W.set o (2 * (n + 2) + 1)) ∧ Fr (fun k => k = g) (w.drewN m) w' := fun m => by
      have := LY (w.drewN m) W (HH.out.drewN m) o (n + 2) 1 (by omega) (by omega) (by omega)
      simpa using this
    have T1 : Hid (∀ m w3, HW w3 p g (W.set o (2 * (n + 2) + 1)) → Fr (fun k => k = g) (w.drewN m) w3 → _) := fun m w3 a b => TAIL.out w3 _ a (by simp) X1 (((Fr.refl (fun k => k = g) w).drewN m).trans b (fun _ _ x => x) (fun _ _ x => x))
    clear TAIL LY X1 HH
    have hdn : ((d + 1 : Nat) : Int) - ((n : Int) + 2) = 0 := by omega
    generalize W.length = q at *
    go_enter Try.func38, Try.ntmps38
    go_wp2_with fail
    refine LO.mono ?_
    rintro e w1 ⟨rfl, m1, rfl⟩
    go_wp2_with fail
    refine (L1 m1).mono ?_
    rintro e w3 ⟨rfl, h3, f3⟩
    obtain ⟨hc3, ⟨x3, hx3⟩, hz3, hc4, sv, hs1, hs2, w5, hr5, h5, f5⟩ := T1.out m1 w3 h3 f3
    have H5 : Hid (HW w5 p g X ∧ Fr (fun k => k = g) w w5) := ⟨h5, f5⟩
    have hi3 : (o : Int) + 1 < (q : Int) := by omega
    have ho3 : ((o : Int) + 1).toNat = o + 1 := by omega
    clear h3 f3 h5 f5 T1 L1 LO
    go_wp2_with fail
    go_region_with ((go_at_call 47; refine (classOf_any _ _).mono ?_; rintro e w2 ⟨rfl, rfl⟩))
    all_goals
      generalize (w3.setCell ⟨g, o + 1, none⟩ (.int .u64 (c : Int))).drew = w4 at *
      have hn0 : (0 : Int) ≤ (n : Int) := by omega
      have hn4 : (n : Int) < 4000 := by omega
      have ho4 : o < 4000 := by omega
      clear hc3 hx3 hz3
      go_wp2_with fail
      go_region_with ((go_at_call 44; refine (wordOf_z _ o _ ho4 (by first | exact hn0 | decide) (by first | exact hn4 | decide)).mono ?_; rintro e w2 ⟨rfl, rfl⟩))
    all_goals
      go_end0
      exact ⟨rfl, H5.out⟩
  · have X1 := CS.out (by omega)
    clear CN CS
    have L0 : ∀ m, Calls Try.prog 36 #[.pointer (some ⟨p, 0, none⟩), .int .i64 ((o : Int) + 1 + ((n : Int) + 2)), .int .i64 ((d : Int) + 1 - ((n : Int) + 2)), .int .u64 0] (w.drewN m) fun e w' => e = .returned (.tuple #[]) ∧ HW w' p g (W.set (o + (n + 2)) (2 * (d - n - 1))) ∧ Fr (fun k => k = g) w w' := fun m => by
      have := LY (w.drewN m) W (HH.out.drewN m) (o + (n + 2)) (d - n - 1) 0 (by omega) (by omega) (by omega)
      rw [show ((o + (n + 2) : Nat) : Int) + 1 = (o : Int) + 1 + ((n : Int) + 2) by omega, show ((d - n - 1 : Nat) : Int) = (d : Int) + 1 - ((n : Int) + 2) by omega] at this
      exact this.mono fun e w' ⟨a, b, c⟩ => ⟨a, b, ((Fr.refl (fun k => k = g) w).drewN m).trans c (fun _ _ x => x) (fun _ _ x => x)⟩
    have L1 : ∀ w2, HW w2 p g (W.set (o + (n + 2)) (2 * (d - n - 1))) → Calls Try.prog 36 #[.pointer (some ⟨p, 0, none⟩), .int .i64 ((o : Int) + 1), .int .i64 ((n : Int) + 2), .int .u64 1] w2 fun e w' => e = .returned (.tuple #[]) ∧ HW w' p g ((W.set (o + (n + 2)) (2 * (d - n - 1))).set o (2 * (n + 2) + 1)) ∧ Fr (fun k => k = g) w2 w' := fun w2 h2 => by
      have := LY w2 _ h2 o (n + 2) 1 (by simp; omega) (by omega) (by omega)
      simpa using this
    have T1 : Hid (∀ w2 w3, Fr (fun k => k = g) w w2 → HW w3 p g ((W.set (o + (n + 2)) (2 * (d - n - 1))).set o (2 * (n + 2) + 1)) → Fr (fun k => k = g) w2 w3 → _) := fun w2 w3 f a b => TAIL.out w3 _ a (by simp) X1 (f.trans b (fun _ _ x => x) (fun _ _ x => x))
    clear TAIL LY X1 HH
    have hdn : (0 : Int) < (d : Int) + 1 - ((n : Int) + 2) := by omega
    have hqd : (n : Int) + 2 < (d : Int) + 1 := by omega
    generalize W.length = q at *
    go_enter Try.func38, Try.ntmps38
    go_wp2_with fail
    refine LO.mono ?_
    rintro e w1 ⟨rfl, m1, rfl⟩
    go_wp2_with fail
    refine (L0 m1).mono ?_
    rintro e w2 ⟨rfl, h2, f2⟩
    have C2 := L1 w2 h2
    have F2 : Hid (Fr (fun k => k = g) w w2) := f2
    clear h2 f2 L0 L1 LO
    go_wp2_with fail
    refine C2.mono ?_
    rintro e w3 ⟨rfl, h3, f3⟩
    obtain ⟨hc3, ⟨x3, hx3⟩, hz3, hc4, sv, hs1, hs2, w5, hr5, h5, f5⟩ := T1.out w2 w3 F2.out h3 f3
    have H5 : Hid (HW w5 p g X ∧ Fr (fun k => k = g) w w5) := ⟨h5, f5⟩
    have hi3 : (o : Int) + 1 < (q : Int) := by omega
    have ho3 : ((o : Int) + 1).toNat = o + 1 := by omega
    clear h3 f3 h5 f5 T1 C2
    go_wp2_with fail
    go_region_with ((go_at_call 47; refine (classOf_any _ _).mono ?_; rintro e w2 ⟨rfl, rfl⟩))
    all_goals
      generalize (w3.setCell ⟨g, o + 1, none⟩ (.int .u64 (c : Int))).drew = w4 at *
      have hn0 : (0 : Int) ≤ (n : Int) := by omega
      have hn4 : (n : Int) < 4000 := by omega
      have ho4 : o < 4000 := by omega
      clear hc3 hx3 hz3
      go_wp2_with fail
      go_region_with ((go_at_call 44; refine (wordOf_z _ o _ ho4 (by first | exact hn0 | decide) (by first | exact hn4 | decide)).mono ?_; rintro e w2 ⟨rfl, rfl⟩))
    all_goals
      go_end0
      exact ⟨rfl, H5.out⟩
end Go.Proofs.Ytopcbcdigllenaa
