/- The program's clocks: as lists and back; Join and Before of lists. -/
import Derived.Test.YtnineggppoipiaaPb
import Derived.Laws.CopyRow
namespace Go.Proofs.Ytnineggppoipiaa
open Go.ChangeShapes Go.WideShapes Go.ChangeAt Go.RowKit

/-- v is a slice of these numbers. -/
def RdI (w : World) (v : Value) (l : List Int) : Prop :=
  (v = .slice none 0 0 ∧ l = []) ∨ ∃ b o cap, v = .slice (some ⟨b, o, none⟩) l.length cap ∧ w.rangeAt b o (l.map (.int .i64 ·))
theorem RdI.keep {w w' : World} {v : Value} {l : List Int} (h : RdI w v l) (f : Fr no w w') : RdI w' v l := by
  rcases h with h | ⟨b, o, cap, h1, h2⟩
  · exact .inl h
  · exact .inr ⟨b, o, cap, h1, rangeAt_fr h2 f (fun x => x)⟩
/-- A new list of a clock's numbers. -/
def LsC (w : World) (v : Value) (c : Nat → Int) : Prop := ∃ b, v = .slice (some ⟨b, 0, none⟩) 13 13 ∧ w.heap[b]? = some (.cells (ckL c).toArray 61 (0, 0))
theorem LsC.rd {w : World} {v : Value} {c : Nat → Int} (h : LsC w v c) : RdI w v ((List.range 13).map c) := by
  obtain ⟨b, rfl, h2⟩ := h
  refine .inr ⟨b, 0, 13, by simp, ?_⟩
  have := range_row h2
  unfold ckL at this
  rw [List.map_map]
  exact this
/-- What a list lacks is 0. -/
def wholeC (l : List Int) : Nat → Int := fun j => l.getD j 0

theorem slice61 (b : Nat) (w : World) : (Instr.sliceAt 61 (.pointer (some ⟨b, 0, none⟩)) none none none).run Try.prog w = .ok (.slice (some ⟨b, 0, none⟩) 13 13) w := by kernel_rfl

set_option maxRecDepth 100000 in
theorem list_any (w : World) (c : Nat → Int) : Calls Try.prog 44 #[ckV c] w fun e w' => ∃ v, e = .returned v ∧ LsC w' v c ∧ Fr no w w' := by
  unfold ckV
  have H := heap_alloc_new w (.cells (ckL c).toArray 61)
  have F := (Fr.refl no w).alloc (ckL c).toArray 61
  have HS := slice61
  generalize hb : w.heap.size = b at *
  go_enter Try.func44, Try.ntmps44
  go_upto_region 1 with fail
  have HI : Hid (_ ∧ _) := ⟨H, F⟩
  clear H F hb
  generalize w.alloc (.cells (ckL c).toArray 61) = W at *
  have hs := HS b W
  clear HS
  go_wp2_with fail
  go_ret
  exact ⟨_, rfl, ⟨b, rfl, HI.out.1⟩, HI.out.2⟩

theorem whole_cells (l : List Int) (hl : l.length ≤ 13) : z13.toList.take 0 ++ l.map (.int .i64 ·) ++ z13.toList.drop (0 + (l.map (Value.int .i64 ·)).length) = ckL (wholeC l) := by
  have hz : z13.toList = ckL zeroC := rfl
  rw [hz]
  apply List.ext_getElem?
  intro i
  simp only [List.take_zero, List.nil_append, List.length_map, Nat.zero_add]
  by_cases hi : i < 13
  · rw [ckL_get _ i hi]
    by_cases h2 : i < l.length
    · rw [List.getElem?_append_left (by simpa using h2), List.getElem?_map, List.getElem?_eq_getElem h2]
      simp [wholeC, List.getD, List.getElem?_eq_getElem h2]
    · rw [List.getElem?_append_right (by simp; omega), List.getElem?_drop, List.length_map, show l.length + (i - l.length) = i by omega, ckL_get _ i hi]
      simp [wholeC, List.getD, List.getElem?_eq_none (by omega : l.length ≤ i), zeroC]
  · rw [List.getElem?_eq_none (by simp [ckL_len]; omega), List.getElem?_eq_none (by rw [ckL_len]; omega)]

theorem copy_whole {W : World} {b : Nat} {v : Value} {l : List Int} (hb : W.heap[b]? = some (.cells z13 61 (0, 0))) (h : RdI W v l) (hl : l.length ≤ 13) :
    ∃ n W', (∀ ty, (Builtin.copy_ #[44, 45] ty #[.slice (some ⟨b, 0, none⟩) 13 13, v]).run Try.prog W = .ok n W') ∧ W'.heap[b]? = some (.cells (ckL (wholeC l)).toArray 61 (0, 0)) ∧ Fr (Bk b) W W' := by
  rcases h with ⟨rfl, rfl⟩ | ⟨g, o, cap, rfl, hr⟩
  · refine ⟨_, W, fun ty => run_copy_nil (P := Try.prog) W 44 45 ty 3 _ 13 13 Try.underlying44 (by kernel_rfl), ?_, Fr.refl _ _⟩
    have hz : z13 = (ckL (wholeC [])).toArray := rfl
    rw [← hz]
    exact hb
  · have hm : Nat.min l.length 13 = l.length := Nat.min_eq_left hl
    refine ⟨_, _, fun ty => run_copy_row (P := Try.prog) W 44 45 ty 3 b 0 13 13 ⟨g, o, none⟩ l.length cap z13 61 (l.map (.int .i64 ·)) Try.underlying44 (by kernel_rfl) hb (by rw [List.length_map, hm]) (fun j u hu => ?_) ?_ ?_, ?_, ?_⟩
    · rw [Addr.add_lit]
      exact hr j u hu
    · rw [List.length_map]
      show 0 + l.length ≤ 13
      omega
    · intro u hu
      obtain ⟨x, -, rfl⟩ := List.mem_map.1 hu
      rfl
    · rw [setRow_heap W b z13 _ 61 _ hb, whole_cells l hl]
    · exact ⟨rfl, rfl, by rw [setRow_size]; exact Nat.le_refl _, fun k hk hs => setRow_other W b k _ hs, fun a _ => frozen_setRow W b _ a⟩

set_option maxRecDepth 100000 in
theorem whole_any (w : World) (v : Value) (l : List Int) (h : RdI w v l) (hl : l.length ≤ 13) : Calls Try.prog 45 #[v] w fun e w' => e = .returned (ckV (wholeC l)) ∧ Fr no w w' := by
  obtain ⟨W, b2, b3, eW, e3, e2, H2, H3, F0⟩ := boxes2n w z13 z13 61 61
  have hR := h.keep F0
  have hne : b2 ≠ b3 := by omega
  obtain ⟨n, W2, hcp, h3, f3⟩ := copy_whole H3 hR hl
  have h2 := f3.heap H2 (fun e => hne e)
  have F2 : Fr no w W2 := F0.newBk f3 (by omega)
  have ht : W2.there b2 0 13 := there_row h2
  have hr := World.rangeAt_setCells_same W2 b2 0 (ckL (wholeC l)) (by rw [ckL_len]; exact ht)
  have HF : Fr no w _ := F2.newBk (fr_sets W2 b2 0 (ckL (wholeC l))) (by omega)
  have HX : Hid (_ ∧ _) := ⟨hr, HF⟩
  have HL : Hid (_ ∧ _) := ⟨range_row h3, ht⟩
  have HS := slice61 b3 W
  have H0 : Hid (_ ∧ _ ∧ _) := ⟨eW, e3, e2⟩
  unfold z13 at H0
  clear eW e3 e2 hr HF ht F2 h2 h3 f3 hR H2 H3 F0 h hne
  go_enter Try.func45, Try.ntmps45
  go_upto_region 2 with fail
  rw [H0.out.1, H0.out.2.1, H0.out.2.2]
  clear H0
  have hc := hcp 3
  clear hcp
  go_upto_region 3 with fail
  apply wp_region_lit
  refine wpList_load_mid rfl 61 (.tmp 3) rfl b3 0 rfl (ckL (wholeC l)) _ HL.out.1 Try.underlying61 rfl (by rw [ckL_len]; exact info61) ?_
  refine wpList_store_mid rfl 61 (.tmp 2) (.tmp 7) rfl b2 0 (ckL (wholeC l)).toArray rfl rfl (by rw [ck_size]; exact HL.out.2) (by rw [ck_size]; exact info61) (ck_one _) ?_
  refine wpList_nil ?_
  show Exit.then _ _ Exit.normal _ _
  go_wp2_with fail
  refine ret_nk (n := 2) HX.out.1 ?_
  exact ⟨rfl, HX.out.2⟩

set_option maxRecDepth 100000 in
/-- Join of two lists. -/
theorem joinL_any (w : World) (v u : Value) (l m : List Int) (hv : RdI w v l) (hu : RdI w u m) (h1 : l.length ≤ 13) (h2 : m.length ≤ 13) (b1 : Bd (wholeC l)) (b2 : Bd (wholeC m)) :
    Calls Try.prog 30 #[v, u] w fun e w' => ∃ x, e = .returned x ∧ LsC w' x (joinC (wholeC l) (wholeC m)) ∧ Fr no w w' := by
  have HU : Hid (RdI w u m) := hu
  have K1 := whole_any w v l hv h1
  clear hu hv
  go_enter Try.func30, Try.ntmps30
  go_wp2_with fail
  refine K1.mono ?_
  rintro _ w1 ⟨rfl, f1⟩
  have F1 : Hid _ := f1
  have K2 := whole_any w1 u m (HU.out.keep f1) h2
  clear f1 K1
  go_wp2_with fail
  refine K2.mono ?_
  rintro _ w2 ⟨rfl, f2⟩
  have F2 : Hid _ := F1.out.and f2
  have K3 := pjoin_any w2 _ _ b1 b2
  clear f2 K2 F1
  go_wp2_with fail
  refine K3.mono ?_
  rintro _ w3 ⟨rfl, f3⟩
  have F3 : Hid _ := F2.out.and f3
  have K4 := list_any w3 (joinC (wholeC l) (wholeC m))
  clear f3 K3 F2
  go_wp2_with fail
  refine K4.mono ?_
  rintro _ w4 ⟨x, rfl, hx, f4⟩
  have F4 : Hid (_ ∧ _) := ⟨hx, F3.out.and f4⟩
  clear f4 hx K4 F3
  go_wp2_with fail
  go_ret
  exact ⟨_, rfl, F4.out.1, F4.out.2⟩

set_option maxRecDepth 100000 in
/-- Before of two lists. -/
theorem beforeL_any (w : World) (v u : Value) (l m : List Int) (hv : RdI w v l) (hu : RdI w u m) (h1 : l.length ≤ 13) (h2 : m.length ≤ 13) :
    Calls Try.prog 31 #[v, u] w fun e w' => e = .returned (.bool (beforeB (wholeC l) (wholeC m))) ∧ Fr no w w' := by
  have HU : Hid (RdI w u m) := hu
  have K1 := whole_any w v l hv h1
  clear hu hv
  go_enter Try.func31, Try.ntmps31
  go_wp2_with fail
  refine K1.mono ?_
  rintro _ w1 ⟨rfl, f1⟩
  have F1 : Hid _ := f1
  have K2 := whole_any w1 u m (HU.out.keep f1) h2
  clear f1 K1
  go_wp2_with fail
  refine K2.mono ?_
  rintro _ w2 ⟨rfl, f2⟩
  have F2 : Hid _ := F1.out.and f2
  have K3 := pbefore_any w2 (wholeC l) (wholeC m)
  clear f2 K2 F1
  go_wp2_with fail
  refine K3.mono ?_
  rintro _ w3 ⟨rfl, f3⟩
  have F3 : Hid _ := F2.out.and f3
  clear f3 K3 F2
  go_wp2_with fail
  go_ret
  exact ⟨rfl, F3.out⟩
end Go.Proofs.Ytnineggppoipiaa
