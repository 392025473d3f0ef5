/- The program's watch: a thread's clock as it is. -/
import Derived.Test.YtnineggppoipiaaPw
namespace Go.Proofs.Ytnineggppoipiaa
open Go.ChangeShapes Go.WideShapes Go.ChangeAt Go.RowKit

theorem st_cells {w : World} {b o : Nat} (c : Nat → Int) (h : w.there b o 13) : (storeCells ⟨b, o, none⟩ (ckL c)).run Try.prog w = .ok () (w.setCells b o (ckL c)) :=
  run_storeCells_cells (P := Try.prog) b o (ckL c) 0 w (fun j hj => by simpa using (h j (by rwa [ckL_len] at hj)).1) (fun j hj => by simpa using (h j (by rwa [ckL_len] at hj)).2)
    (fun v hv => (Array.all_eq_true_iff_forall_mem.1 (ck_one c)) v (by simpa using hv))
theorem there_ck {w : World} {b : Nat} {c : Nat → Int} {t : TypeId} (h : w.heap[b]? = some (.cells (ckL c).toArray t (0, 0))) : w.there b 0 13 := by
  have := there_row h
  rwa [ck_size] at this
theorem row_is {w : World} {b : Nat} {cs : Array Value} {t : TypeId} {l : List Value} (h : w.heap[b]? = some (.cells cs t (0, 0))) (hs : cs.size = l.length) (hr : w.rangeAt b 0 l) : w.heap[b]? = some (.cells l.toArray t (0, 0)) := by
  rw [h]
  congr 2
  apply Array.ext'
  apply List.ext_getElem?
  intro i
  by_cases hi : i < l.length
  · have := hr i _ (List.getElem?_eq_getElem hi)
    unfold World.cell? at this
    rw [h] at this
    rw [List.getElem?_eq_getElem hi]
    simpa using this
  · rw [List.getElem?_eq_none (by simp; omega), List.getElem?_eq_none (by simp; omega)]
/-- The world as a letter, with what is known of it. -/
theorem wp_letter {c : Code} {Q : Exit → Act → World → Prop} {a : Act} {w : World} (X : World → Prop) (h : X w) (f : ∀ w', X w' → Code.wp Try.prog c Q a w') : Code.wp Try.prog c Q a w := f w h
/-- A row of one clock is written anew. -/
theorem row_sets {w : World} {b : Nat} {cs : Array Value} {t : TypeId} (h : w.heap[b]? = some (.cells cs t (0, 0))) (hs : cs.size = 13) (c : Nat → Int) : (w.setCells b 0 (ckL c)).heap[b]? = some (.cells (ckL c).toArray t (0, 0)) := by
  generalize hL : ckL c = L
  have hl : L.length = 13 := by rw [← hL, ckL_len]
  obtain ⟨cs', h1, h2⟩ := row_set (p := b) (t := t) (m := 13) L 0 w ⟨cs, h, hs⟩
  have ht := there_row h
  rw [hs, ← hl] at ht
  exact row_is h1 (h2.trans hl.symm) (World.rangeAt_setCells_same w b 0 L ht)

set_option maxRecDepth 100000 in
set_option maxHeartbeats 1000000 in
theorem now_any {c : Nat} (w : World) (p : Nat) (F : Cm) (n : Int) (k : Nat) (h : PW c w p F n k) (t : Nat) (ht0 : 0 < t) (ht : t < 13) :
    Calls Try.prog 34 #[.pointer (some ⟨p, 0, none⟩), .int .i64 (t : Int)] w fun e w' => e = .returned (ckV (nowP F t)) ∧ Fr no w w' := by
  obtain ⟨W, b4, b5, eW, e5, e4, H4, H5, F0⟩ := boxes2n w z13 z13 61 61
  obtain ⟨v, c0, -, hM, -⟩ := (h.keep ((Fr.refl no w).alloc z13 61)).cells
  have hl : (Instr.lookup 56 v (pkV (th t)) true).run Try.prog (w.alloc (.cells z13 61)) = _ := hM.look_ok (Fr.refl no _) (th_ok ht)
  have ht1 : (0 : Int) ≤ (t : Int) := by omega
  have ht2 : (t : Int) < 13 := by omega
  have hst := st_cells (getP F (th t)) (there_row (cs := z13) H5)
  have H5b := row_sets H5 rfl (getP F (th t))
  have H4b := (fr_sets W b5 0 (ckL (getP F (th t)))).heap H4 (fun e => by unfold Bk at e; omega)
  have F1 := F0.newBk (fr_sets W b5 0 (ckL (getP F (th t)))) (by omega)
  have hsz := ck_size (getP F (th t))
  have hn : nowP F t = if (F (th t)).isSome then getP F (th t) else setT (getP F (th t)) t 1 := by
    unfold nowP getP unitC
    cases F (th t) <;> rfl
  generalize getP F (th t) = c1 at *
  generalize (F (th t)).isSome = ok at *
  subst e4 e5 eW
  unfold z13 at c0 hl hst
  unfold pkV th ckV at hl
  have HI : Hid (_ ∧ _ ∧ _) := ⟨H4b, H5b, F1⟩
  clear hM h H4 H5 H4b H5b F0 F1
  go_enter Try.func34, Try.ntmps34
  go_upto_region 2 with fail
  unfold z13 at HI
  refine wp_letter (fun w' => w'.heap[w.heap.size]? = some (.cells z13 61 (0, 0)) ∧ w'.heap[w.heap.size + 1]? = some (.cells (ckL c1).toArray 61 (0, 0)) ∧ Fr no w w') HI.out ?_
  intro W3 H3
  have HI2 : Hid (_ ∧ _ ∧ _) := H3
  clear H3 HI hst hl c0
  generalize hb : w.heap.size = b at *
  have HB : Hid (w.heap.size = b) := hb
  clear hb
  have HN : Hid _ := hn
  clear hn
  have fin : ∀ (W4 : World) (c2 : Nat → Int), W4.heap[b]? = some (.cells z13 61 (0, 0)) → W4.heap[b + 1]? = some (.cells (ckL c2).toArray 61 (0, 0)) → Fr no w W4 →
      (W4.rangeAt (b + 1) 0 (ckL c2) ∧ W4.there b 0 13) ∧ ((W4.setCells b 0 (ckL c2)).rangeAt b 0 (ckL c2) ∧ Fr no w (W4.setCells b 0 (ckL c2))) := fun W4 c2 h4 h5 f => by
    have ht : W4.there b 0 13 := there_row h4
    exact ⟨⟨range_row h5, ht⟩, World.rangeAt_setCells_same W4 b 0 (ckL c2) (by rw [ckL_len]; exact ht), f.newBk (fr_sets W4 b 0 (ckL c2)) (by have := HB.out; omega)⟩
  have HF : Hid _ := fin
  clear fin
  cases ok
  · have fz := row_froz HI2.out.2.1
    have cc := row_cell HI2.out.2.1 ht
    have HS : Hid (_ ∧ _ ∧ _) := ⟨(fr_set W3 (b + 1) t (.int .i64 1)).heap HI2.out.1 (fun e => by unfold Bk at e; omega), (by have := heap_set (o := t) (u := .int .i64 1) HI2.out.2.1; rwa [List.setIfInBounds_toArray, show (ckL c1).set t (.int .i64 1) = ckL (setT c1 t 1) from ckL_set c1 t 1] at this), HI2.out.2.2.newBk (fr_set W3 (b + 1) t (.int .i64 1)) (by have := HB.out; omega)⟩
    go_upto_region 4 with fail
    refine wp_letter (fun w' => w'.heap[b]? = some (.cells z13 61 (0, 0)) ∧ w'.heap[b + 1]? = some (.cells (ckL (setT c1 t 1)).toArray 61 (0, 0)) ∧ Fr no w w') HS.out ?_
    intro W4 H4
    have HX : Hid _ := HF.out W4 _ H4.1 H4.2.1 H4.2.2
    apply wp_region_lit
    refine wpList_load_mid rfl 61 (.tmp 5) rfl (b + 1) 0 rfl (ckL (setT c1 t 1)) _ HX.out.1.1 Try.underlying61 rfl (by rw [ckL_len]; exact info61) ?_
    refine wpList_store_mid rfl 61 (.tmp 4) (.tmp 21) rfl b 0 (ckL (setT c1 t 1)).toArray rfl rfl (by rw [ck_size]; exact HX.out.1.2) (by rw [ck_size]; exact info61) (ck_one _) ?_
    refine wpList_nil ?_
    show Exit.then _ _ Exit.normal _ _
    go_wp2_with fail
    refine ret_nk (n := 4) HX.out.2.1 ?_
    rw [HN.out]
    exact ⟨rfl, HX.out.2.2⟩
  · go_upto_region 4 with fail
    have HX : Hid _ := HF.out W3 _ HI2.out.1 HI2.out.2.1 HI2.out.2.2
    apply wp_region_lit
    refine wpList_load_mid rfl 61 (.tmp 5) rfl (b + 1) 0 rfl (ckL c1) _ HX.out.1.1 Try.underlying61 rfl (by rw [ckL_len]; exact info61) ?_
    refine wpList_store_mid rfl 61 (.tmp 4) (.tmp 21) rfl b 0 (ckL c1).toArray rfl rfl (by rw [ck_size]; exact HX.out.1.2) (by rw [ck_size]; exact info61) (ck_one _) ?_
    refine wpList_nil ?_
    show Exit.then _ _ Exit.normal _ _
    go_wp2_with fail
    refine ret_nk (n := 4) HX.out.2.1 ?_
    rw [HN.out]
    exact ⟨rfl, HX.out.2.2⟩
end Go.Proofs.Ytnineggppoipiaa
