/- The class reader: code, the mark. -/
import Derived.Test.YthncdbobjeeeaaaGreatDoorGood
import Derived.Deep.RegionHeld3
namespace Go.Proofs.YthncdbobjeeeaaaGreatDoor
open Go.ChangeShapes Go.WideShapes Go.ChangeAt Go.RowKit

theorem Fr.allocF {S : Nat → Prop} {a w : World} (h : Fr S a w) (c : Array Value) (t : TypeId) (fz : Nat × Nat) : Fr S a (w.alloc (.cells c t fz)) :=
  ⟨h.os, h.output, Nat.le_trans h.size (by show w.heap.size ≤ (w.heap.push _).size; simp), fun k hk hs => (Below.heap_alloc w _ k (Nat.lt_of_lt_of_le hk h.size)).trans (h.block k hk hs),
    fun x hx => by
      have e : (w.alloc (.cells c t fz)).heap[x.block]? = w.heap[x.block]? := Below.heap_alloc w _ x.block (Nat.lt_of_lt_of_le hx h.size)
      have : (w.alloc (.cells c t fz)).frozen? x = w.frozen? x := by unfold World.frozen?; rw [e]
      rw [this]
      exact h.frozen x hx⟩

theorem bytes_of (w : World) (s : ByteArray) (hs : s.size ≤ 1099511627776) : ∃ a n c W, (convert 9 22 (.string s)).run Tryz.prog w = .ok (.slice a n c) W ∧ Sl W (.slice a n c) (nl s) ∧ Fr no w W := by
  refine ⟨_, _, _, _, run_bytes_of_string w 9 22 5 s Tryz.underlying9 Tryz.underlying22 Tryz.underlying5, ?_, (Fr.refl no w).drew.allocF _ _ _⟩
  have hge := grownCap_ge w s.size 0 5
  have hcm : grownCap w s.size 0 5 ≤ maxLen := grownCap_le_maxLen w _ 0 5 (by unfold maxLen; omega)
  refine .inl ⟨w.heap.size, 0, grownCap w s.size 0 5, by rw [nl_length], by rw [nl_length]; exact hge, hcm, fun i c hi => ?_⟩
  have hlt : i < s.size := by
    rcases Nat.lt_or_ge i s.size with h | h
    · exact h
    · rw [List.getElem?_eq_none (by rw [nl_length]; exact h)] at hi; simp at hi
  rw [nl_get s i hlt] at hi
  simp only [Option.some.injEq] at hi
  subst hi
  have hb : ∀ fz, (w.drew.alloc (.cells (bytesRow s (grownCap w s.size 0 5)) 5 fz)).heap[w.heap.size]? = some (.cells (bytesRow s (grownCap w s.size 0 5)) 5 fz) := fun fz => heap_alloc_new w.drew _
  unfold World.cell?
  simp only [hb, Nat.zero_add]
  unfold bytesRow
  have hlt' : i < s.data.size := hlt
  rw [Array.getElem?_append_left (by rw [Array.size_map]; exact hlt'), Array.getElem?_map, Array.getElem?_eq_getElem hlt']
  rfl

/-- A row of the call's own stays beside the class reader. -/
theorem OwnG.beside {α : Type} {K : El α} {w w' : World} {p q : Nat} {s : List Nat × Nat} {v : Value} {l : List α} (h : OwnG K w v l) (hr : RT w p q s) (h1 : K.e ≠ 74) (h2 : K.e ≠ 176) (hf : Fr (PQ p q) w w') : OwnG K w' v l := by
  refine h.kept hf (fun k hk e => ?_)
  obtain ⟨cur, ht⟩ := h.tag hk
  rcases e with rfl | rfl
  · rw [RS.blk hr] at ht
    simp only [Option.some.injEq, Obj.cells.injEq] at ht
    exact h1 ht.2.1.symm
  · obtain ⟨v, hv, _⟩ := RS.rd hr
    rw [hv] at ht
    simp only [Option.some.injEq, Obj.cells.injEq] at ht
    exact h2 ht.2.1.symm

theorem OwnI.beside {w w' : World} {p q : Nat} {s : List Nat × Nat} {v : Value} {l : List (Int × Int)} (h : OwnI w v l) (hr : RT w p q s) (hf : Fr (PQ p q) w w') : OwnI w' v l := by
  refine h.kept hf (fun k hk e => ?_)
  obtain ⟨cur, ht⟩ := h.tag hk
  rcases e with rfl | rfl
  · rw [RS.blk hr] at ht
    simp at ht
  · obtain ⟨v, hv, _⟩ := RS.rd hr
    rw [hv] at ht
    simp at ht

theorem RT.not {w : World} {p q : Nat} {s : List Nat × Nat} (h : RT w p q s) {k : Nat} {u : Value} (hc : w.cell? ⟨k, 0, none⟩ = some u) (hu : ∀ a n c, u ≠ .slice a n c) (hu2 : ∀ a, u ≠ .pointer a) : ¬ PQ p q k := by
  rintro (rfl | rfl)
  · rw [(RS.cells h).1] at hc
    simp only [Option.some.injEq] at hc
    exact hu2 _ hc.symm
  · obtain ⟨v, hv, hs⟩ := RS.rd h
    rw [cell_of_one hv] at hc
    simp only [Option.some.injEq] at hc
    obtain ⟨o, c, e, _⟩ := hs.shape
    rw [e] at hc
    exact hu _ _ _ hc.symm

theorem Tb.beside {w w' : World} {p q : Nat} {s : List Nat × Nat} (T : Tb w) (h : RT w p q s) (f : Fr (PQ p q) w w') : Tb w' :=
  ⟨fun n hn => f.cell (T.op n hn) (h.not (T.op 0 (by omega)) (fun _ _ _ e => by cases e) (fun _ e => by cases e))⟩
theorem Tr.beside {w w' : World} {p q : Nat} {s : List Nat × Nat} (T : Tr w) (h : RT w p q s) (f : Fr (PQ p q) w w') : Tr w' :=
  fun n hn => f.cell (T n hn) (h.not (T 0 (by omega)) (fun _ _ _ e => by cases e) (fun _ e => by cases e))

theorem tkT_size (most : Nat) (s : List Nat × Nat) (hs : s.1.length ≤ 1099511627776) : (tkT (most : Int) s).1.size ≤ 1099511627776 := by
  unfold tkT
  split
  · simp only []
    rw [bstr_size]
    unfold tx
    split
    · simp
    · split
      · simp
      · simp only []
        rw [List.length_take, List.length_drop]
        omega
  · rw [e0_size]; omega

set_option maxRecDepth 100000 in
set_option maxHeartbeats 1000000 in
theorem readCode_any (w : World) (T : Tb w) (p q : Nat) (s : List Nat × Nat) (h : RT w p q s) :
    Calls Tryz.prog 71 #[.pointer (some ⟨p, 0, none⟩)] w fun x w' => ∃ v, x = .returned v ∧ OwnI w' v (rCode s).1 ∧ RT w' p q (rCode s).2 ∧ Fr (PQ p q) w w' := by
  have K := rText_any w p q s h 20000 (by omega) (by omega)
  have hsz := tkT_size 20000 s (RS.ln h)
  have HR : Hid (rCode s = if (tkT 20000 s).2.2 = 0 then ((gt (nl (tkT 20000 s).1)).1, ((tkT 20000 s).2.1, (gt (nl (tkT 20000 s).1)).2)) else ([], (tkT 20000 s).2)) := rfl
  have hsz' : (tkT 20000 s).1.size ≤ 1099511627776 := hsz
  clear hsz
  generalize rCode s = r at *
  generalize tkT 20000 s = t at *
  obtain ⟨b, l, e⟩ := t
  simp only [] at *
  by_cases h0 : e = 0
  · subst h0
    rw [if_pos rfl] at HR
    go_enter Tryz.func71, Tryz.ntmps71
    go_wp2_with fail
    refine K.mono ?_
    rintro x w1 ⟨rfl, r1, f1⟩
    obtain ⟨c0, c1, z1⟩ := RS.cells r1
    simp only [] at c0 c1
    obtain ⟨a, n, c, W, hrun, hsl, hfr⟩ := bytes_of w1 b hsz'
    have T1 : Tb w1 := T.beside h f1
    have G := get_any W (T1.kept hfr) _ (nl b) hsl (nl_lt b) (by rw [nl_length]; exact hsz')
    have rW := r1.new hfr
    clear T1 hsl
    go_wp2_with fail
    refine G.mono ?_
    rintro x w2 ⟨v2, rfl, o2, f2⟩
    obtain ⟨a2, c2, e2⟩ := o2.form
    subst e2
    have r2 : RT w2 p q (l, 0) := RS.new rW f2
    go_wp2_with fail
    refine (fail_any w2 p q l 0 r2 (gt (nl b)).2).mono ?_
    rintro x w3 ⟨rfl, r3, f3⟩
    go_wp2_with fail
    go_ret
    rw [HR.out]
    exact ⟨_, rfl, o2.beside r2 f3, r3, ((f1.trans hfr (fun _ _ e => e) (fun _ _ f => f.elim)).trans f2 (fun _ _ e => e) (fun _ _ f => f.elim)).trans f3 (fun _ _ e => e) (fun _ _ e => e)⟩
  · rw [if_neg h0] at HR
    have h0' : ((e : Int) == 0) = false := beq_eq_false_iff_ne.2 (by omega)
    go_enter Tryz.func71, Tryz.ntmps71
    go_wp2_with fail
    refine K.mono ?_
    rintro x w1 ⟨rfl, r1, f1⟩
    obtain ⟨c0, c1, z1⟩ := RS.cells r1
    simp only [] at c0 c1
    go_wp2_with fail
    go_ret
    rw [HR.out]
    exact ⟨_, rfl, OwnI.nil _, r1, f1⟩

set_option maxRecDepth 100000 in
set_option maxHeartbeats 4000000 in
theorem readMark_any (w : World) (p q : Nat) (s : List Nat × Nat) (h : RT w p q s) :
    Calls Tryz.prog 17 #[.pointer (some ⟨p, 0, none⟩)] w fun x w' => x = .returned (.tuple #[]) ∧ RT w' p q (rMark s) ∧ Fr (PQ p q) w w' := by
  go_enter Tryz.func17, Tryz.ntmps17
  go_wp2_with fail
  go_loopw [3] (fun i wr => ∃ (j : Nat), i = .int .i64 (j : Int) ∧ j ≤ 4 ∧ RT wr p q (mkAt s j) ∧ Fr (PQ p q) w wr) (fun i _ => 4 - (intOf i).toNat)
  case atStart => exact ⟨0, rfl, by omega, h, Fr.refl _ _⟩
  case round =>
    obtain ⟨j, rfl, hj, r1, f1⟩ := hrel
    by_cases hj4 : j < 4
    · have hfd : Fr no wr wr.drew := (Fr.refl no wr).drew
      have K := rByte_any wr.drew p q (mkAt s j) (r1.new hfd)
      have HF : Hid (∀ w2, Fr (PQ p q) wr.drew w2 → Fr (PQ p q) w w2) := fun w2 f2 => (f1.trans hfd (fun _ _ e => e) (fun _ _ f => f.elim)).trans f2 (fun _ _ e => e) (fun _ _ e => e)
      clear hfd r1 f1
      rcases (show j = 0 ∨ j = 1 ∨ j = 2 ∨ j = 3 by omega) with rfl | rfl | rfl | rfl
      · have HM : Hid (mkAt s 1 = mk1 76 (mkAt s 0)) := rfl
        have HM1 : Hid (mk1 76 (mkAt s 0) = if (tkB (mkAt s 0)).1 = 76 then (tkB (mkAt s 0)).2 else ((tkB (mkAt s 0)).2.1, thn (tkB (mkAt s 0)).2.2 31)) := rfl
        generalize mk1 76 (mkAt s 0) = m2 at *
        generalize tkB (mkAt s 0) = t at *
        obtain ⟨b, l, e⟩ := t
        simp only [] at K HM1
        by_cases hb : b = 76
        · subst hb
          rw [if_pos rfl] at HM1
          have hcmp : ((76 : Int) != ((({ data := #[76, 79, 79, 77] } : ByteArray)[0].toNat : Nat) : Int)) = false := rfl
          go_wp2_with fail
          go_region_held3 (fun _ => True) (exact trivial) (first | (go_at_call 61; refine K.mono ?_; rintro x w2 ⟨rfl, r2, f2⟩))
          all_goals
            go_wp2_with fail
            go_roundw
            case rel => exact ⟨1, by go_num, by omega, by rw [HM.out, HM1.out]; exact r2, HF.out _ f2⟩
            case measure => simp [intOf]
        · have hcmp : ((b : Int) != ((({ data := #[76, 79, 79, 77] } : ByteArray)[0].toNat : Nat) : Int)) = true := by
            have e : ((({ data := #[76, 79, 79, 77] } : ByteArray)[0].toNat : Nat) : Int) = 76 := rfl
            rw [e]; simp; omega
          rw [if_neg hb] at HM1
          go_wp2_with fail
          go_region_held3 (fun _ => True) (exact trivial) (first | (go_at_call 61; refine K.mono ?_; rintro x w2 ⟨rfl, r2, f2⟩))
          all_goals
            go_wp2_with fail
            refine (fail_any w2 p q l e r2 31).mono ?_
            rintro x w3 ⟨rfl, r3, f3⟩
            go_wp2_with fail
            go_roundw
            case rel => exact ⟨1, by go_num, by omega, by rw [HM.out, HM1.out]; exact r3, (HF.out _ f2).trans f3 (fun _ _ e => e) (fun _ _ e => e)⟩
            case measure => simp [intOf]
      · have HM : Hid (mkAt s 2 = mk1 79 (mkAt s 1)) := rfl
        have HM1 : Hid (mk1 79 (mkAt s 1) = if (tkB (mkAt s 1)).1 = 79 then (tkB (mkAt s 1)).2 else ((tkB (mkAt s 1)).2.1, thn (tkB (mkAt s 1)).2.2 31)) := rfl
        generalize mk1 79 (mkAt s 1) = m2 at *
        generalize tkB (mkAt s 1) = t at *
        obtain ⟨b, l, e⟩ := t
        simp only [] at K HM1
        by_cases hb : b = 79
        · subst hb
          rw [if_pos rfl] at HM1
          have hcmp : ((79 : Int) != ((({ data := #[76, 79, 79, 77] } : ByteArray)[1].toNat : Nat) : Int)) = false := rfl
          go_wp2_with fail
          go_region_held3 (fun _ => True) (exact trivial) (first | (go_at_call 61; refine K.mono ?_; rintro x w2 ⟨rfl, r2, f2⟩))
          all_goals
            go_wp2_with fail
            go_roundw
            case rel => exact ⟨2, by go_num, by omega, by rw [HM.out, HM1.out]; exact r2, HF.out _ f2⟩
            case measure => simp [intOf]
        · have hcmp : ((b : Int) != ((({ data := #[76, 79, 79, 77] } : ByteArray)[1].toNat : Nat) : Int)) = true := by
            have e : ((({ data := #[76, 79, 79, 77] } : ByteArray)[1].toNat : Nat) : Int) = 79 := rfl
            rw [e]; simp; omega
          rw [if_neg hb] at HM1
          go_wp2_with fail
          go_region_held3 (fun _ => True) (exact trivial) (first | (go_at_call 61; refine K.mono ?_; rintro x w2 ⟨rfl, r2, f2⟩))
          all_goals
            go_wp2_with fail
            refine (fail_any w2 p q l e r2 31).mono ?_
            rintro x w3 ⟨rfl, r3, f3⟩
            go_wp2_with fail
            go_roundw
            case rel => exact ⟨2, by go_num, by omega, by rw [HM.out, HM1.out]; exact r3, (HF.out _ f2).trans f3 (fun _ _ e => e) (fun _ _ e => e)⟩
            case measure => simp [intOf]
      · have HM : Hid (mkAt s 3 = mk1 79 (mkAt s 2)) := rfl
        have HM1 : Hid (mk1 79 (mkAt s 2) = if (tkB (mkAt s 2)).1 = 79 then (tkB (mkAt s 2)).2 else ((tkB (mkAt s 2)).2.1, thn (tkB (mkAt s 2)).2.2 31)) := rfl
        generalize mk1 79 (mkAt s 2) = m2 at *
        generalize tkB (mkAt s 2) = t at *
        obtain ⟨b, l, e⟩ := t
        simp only [] at K HM1
        by_cases hb : b = 79
        · subst hb
          rw [if_pos rfl] at HM1
          have hcmp : ((79 : Int) != ((({ data := #[76, 79, 79, 77] } : ByteArray)[2].toNat : Nat) : Int)) = false := rfl
          go_wp2_with fail
          go_region_held3 (fun _ => True) (exact trivial) (first | (go_at_call 61; refine K.mono ?_; rintro x w2 ⟨rfl, r2, f2⟩))
          all_goals
            go_wp2_with fail
            go_roundw
            case rel => exact ⟨3, by go_num, by omega, by rw [HM.out, HM1.out]; exact r2, HF.out _ f2⟩
            case measure => simp [intOf]
        · have hcmp : ((b : Int) != ((({ data := #[76, 79, 79, 77] } : ByteArray)[2].toNat : Nat) : Int)) = true := by
            have e : ((({ data := #[76, 79, 79, 77] } : ByteArray)[2].toNat : Nat) : Int) = 79 := rfl
            rw [e]; simp; omega
          rw [if_neg hb] at HM1
          go_wp2_with fail
          go_region_held3 (fun _ => True) (exact trivial) (first | (go_at_call 61; refine K.mono ?_; rintro x w2 ⟨rfl, r2, f2⟩))
          all_goals
            go_wp2_with fail
            refine (fail_any w2 p q l e r2 31).mono ?_
            rintro x w3 ⟨rfl, r3, f3⟩
            go_wp2_with fail
            go_roundw
            case rel => exact ⟨3, by go_num, by omega, by rw [HM.out, HM1.out]; exact r3, (HF.out _ f2).trans f3 (fun _ _ e => e) (fun _ _ e => e)⟩
            case measure => simp [intOf]
      · have HM : Hid (mkAt s 4 = mk1 77 (mkAt s 3)) := rfl
        have HM1 : Hid (mk1 77 (mkAt s 3) = if (tkB (mkAt s 3)).1 = 77 then (tkB (mkAt s 3)).2 else ((tkB (mkAt s 3)).2.1, thn (tkB (mkAt s 3)).2.2 31)) := rfl
        generalize mk1 77 (mkAt s 3) = m2 at *
        generalize tkB (mkAt s 3) = t at *
        obtain ⟨b, l, e⟩ := t
        simp only [] at K HM1
        by_cases hb : b = 77
        · subst hb
          rw [if_pos rfl] at HM1
          have hcmp : ((77 : Int) != ((({ data := #[76, 79, 79, 77] } : ByteArray)[3].toNat : Nat) : Int)) = false := rfl
          go_wp2_with fail
          go_region_held3 (fun _ => True) (exact trivial) (first | (go_at_call 61; refine K.mono ?_; rintro x w2 ⟨rfl, r2, f2⟩))
          all_goals
            go_wp2_with fail
            go_roundw
            case rel => exact ⟨4, by go_num, by omega, by rw [HM.out, HM1.out]; exact r2, HF.out _ f2⟩
            case measure => simp [intOf]
        · have hcmp : ((b : Int) != ((({ data := #[76, 79, 79, 77] } : ByteArray)[3].toNat : Nat) : Int)) = true := by
            have e : ((({ data := #[76, 79, 79, 77] } : ByteArray)[3].toNat : Nat) : Int) = 77 := rfl
            rw [e]; simp; omega
          rw [if_neg hb] at HM1
          go_wp2_with fail
          go_region_held3 (fun _ => True) (exact trivial) (first | (go_at_call 61; refine K.mono ?_; rintro x w2 ⟨rfl, r2, f2⟩))
          all_goals
            go_wp2_with fail
            refine (fail_any w2 p q l e r2 31).mono ?_
            rintro x w3 ⟨rfl, r3, f3⟩
            go_wp2_with fail
            go_roundw
            case rel => exact ⟨4, by go_num, by omega, by rw [HM.out, HM1.out]; exact r3, (HF.out _ f2).trans f3 (fun _ _ e => e) (fun _ _ e => e)⟩
            case measure => simp [intOf]
    · have : j = 4 := by omega
      subst this
      have K := rByte_any wr p q (mkAt s 4) r1
      have HM : Hid (rMark s = mk1 1 (mkAt s 4)) := rfl
      have HM1 : Hid (mk1 1 (mkAt s 4) = if (tkB (mkAt s 4)).1 = 1 then (tkB (mkAt s 4)).2 else ((tkB (mkAt s 4)).2.1, thn (tkB (mkAt s 4)).2.2 31)) := rfl
      generalize mk1 1 (mkAt s 4) = m2 at *
      generalize tkB (mkAt s 4) = t at *
      obtain ⟨b, l, e⟩ := t
      simp only [] at K HM1
      by_cases hb : b = 1
      · subst hb
        rw [if_pos rfl] at HM1
        go_wp2_with fail
        refine K.mono ?_
        rintro x w2 ⟨rfl, r2, f2⟩
        go_wp2_with fail
        go_end0
        rw [HM.out, HM1.out]
        exact ⟨rfl, r2, f1.trans f2 (fun _ _ e => e) (fun _ _ e => e)⟩
      · have hb' : ((b : Int) == 1) = false := by simp; omega
        rw [if_neg hb] at HM1
        go_wp2_with fail
        refine K.mono ?_
        rintro x w2 ⟨rfl, r2, f2⟩
        go_wp2_with fail
        refine (fail_any w2 p q l e r2 31).mono ?_
        rintro x w3 ⟨rfl, r3, f3⟩
        go_wp2_with fail
        go_end0
        rw [HM.out, HM1.out]
        exact ⟨rfl, r3, (f1.trans f2 (fun _ _ e => e) (fun _ _ e => e)).trans f3 (fun _ _ e => e) (fun _ _ e => e)⟩
end Go.Proofs.YthncdbobjeeeaaaGreatDoor
