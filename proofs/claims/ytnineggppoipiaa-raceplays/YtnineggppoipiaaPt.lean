/- The program's watch: whether another thread touched a word, unordered: the walk. -/
import Derived.Test.YtnineggppoipiaaPs
namespace Go.Proofs.Ytnineggppoipiaa
open Go.ChangeShapes Go.WideShapes Go.ChangeAt Go.RowKit

theorem wpList_callR {ops : Array Oper} {rest : List Oper} {o : Oper} {a : Act} {w : World} {Q : Exit → Act → World → Prop} (hg : o.guard = none) (d : Option Tmp) (hd : o.dst = d)
    (f : FuncId) (args : Array Value) (hrun : (execOp a.eval o).run Try.prog w = .ok (.enter f args) w) {R : Value → World → Prop}
    (hc : Calls Try.prog f args w fun e w2 => ∃ v, e = .returned v ∧ R v w2) (h : ∀ v w2, R v w2 → wpList Try.prog ops Q rest (a.put d v) w2) : wpList Try.prog ops Q (o :: rest) a w := by
  subst hd
  refine wpList_plain hg fun K hK => ?_
  unfold Oper.wp
  rw [hrun, Oper.upon_enter]
  refine hc.mono fun e w2 hh => ?_
  obtain ⟨v, rfl, hR⟩ := hh
  exact hK _ _ (h v w2 hR)
theorem wp_frame {c : Code} {Q : Exit → Act → World → Prop} {a a2 : Act} {w : World} (ha : a = a2) (h : Code.wp Try.prog c Q a2 w) : Code.wp Try.prog c Q a w := ha ▸ h
/-- At the label of 'unordered'. -/
def UnAt (w : World) (p b4 : Nat) (F : Cm) (q : Pk) (tn : Nat) (kd : Int) (nw : Nat → Int) (x : Act) (wr : World) : Prop :=
  ∃ (b7 b8 j : Nat) (u1 u2 u3 u5 u6 u9 u10 u11 u12 u13 u14 u15 u16 u17 u18 u19 u20 u21 u22 u23 u24 u25 u26 u27 u28 u29 u30 u31 u32 u33 u34 u35 u36 u37 u38 u39 u40 : Value), x = { tmps := #[.pointer (some ⟨p, 0, none⟩), u1, u2, u3, .pointer (some ⟨b4, 0, none⟩), u5, u6, .pointer (some ⟨b7, 0, none⟩), .pointer (some ⟨b8, 0, none⟩), u9, u10, u11, u12, u13, u14, u15, u16, u17, u18, u19, u20, u21, u22, u23, u24, u25, u26, u27, u28, u29, u30, u31, u32, u33, u34, u35, u36, u37, u38, u39, u40], defers := [] } ∧ j ≤ 12 ∧ (b4 ≠ b8 ∧ b7 ≠ b8 ∧ w.heap.size ≤ b8) ∧ Hid (∀ i, i < j → unoP F tn kd q.a q.i (i + 1) = false) ∧ Hid (UM w wr b4 b7 b8 q ⟨kd, j, q.a, q.i⟩ nw)
def inSlot (v : Value) : Nat := match v with
  | .pointer (some x) => x.block
  | _ => 0
def atJ (b8 : Nat) (w : World) : Nat := 12 - (intOf ((w.cell? ⟨b8, 1, none⟩).getD undef)).toNat
theorem atJ_of {w wr : World} {b4 b7 b8 : Nat} {q q2 : Pk} {nw : Nat → Int} (h : UM w wr b4 b7 b8 q q2 nw) : atJ b8 wr = 12 - q2.t.toNat := by
  unfold atJ
  rw [(cells4 h.h8).2.1]
  rfl

set_option maxRecDepth 100000 in
set_option maxHeartbeats 1000000 in
theorem unord_any {c : Nat} (w : World) (p : Nat) (F : Cm) (n : Int) (k : Nat) (h : PW c w p F n k) (q : Pk) (hq : q.Ok) (tn : Nat) (hqt : q.t = (tn : Int)) (ht0 : 0 < tn) (ht : tn < 13) (kd : Int) (hkd : In kd) :
    Calls Try.prog 48 #[.pointer (some ⟨p, 0, none⟩), pkV q, .int .i64 kd] w fun e w' => e = .returned (.bool (unoB F tn kd q.a q.i)) ∧ Fr no w w' := by
  obtain ⟨W, b4, eW, e4, H4, F0⟩ := box1 w (pkL q).toArray 66
  have NW := now_any W p F n k (h.keep F0) tn ht0 ht
  rw [← hqt] at NW
  have HQT : Hid _ := hqt
  clear hqt
  obtain ⟨v, c0, -, hM, -⟩ := h.cells
  have HM : Hid (MV c w v k F) := hM
  have HC0 : Hid _ := c0
  have lp := h.lt
  clear hM h c0
  generalize hnw : nowP F tn = nw at *
  have HNW : Hid (nowP F tn = nw) := hnw
  clear hnw
  generalize hres : unoB F tn kd q.a q.i = res
  have HRES : Hid (unoB F tn kd q.a q.i = res) := hres
  clear hres
  have H0 : Hid (_ ∧ _) := ⟨eW, e4⟩
  obtain ⟨d0, d1, d2, d3⟩ := cells4 H4
  clear eW
  unfold pkV
  go_enter Try.func48, Try.ntmps48
  go_upto_region 1 with fail
  unfold pkL at H0
  rw [H0.out.1]
  clear H0
  refine wp_label_one 0 (UnAt w p b4 F q tn kd nw) (fun x w => atJ (inSlot (x.tmps.getD 8 undef)) w) rfl ?_ ?_
  · intro K h0 hr hn
    refine wp_seq ?_
    apply wp_region_lit
    refine Great.wpList_runTo rfl (some 9) rfl (.pointer (some ⟨p, 0, none⟩)) W (by as_aux_lemma => kernel_rfl) ?_
    refine Great.wpList_runTo rfl (some 10) rfl (.pointer (some ⟨b4, 1, none⟩)) W (by as_aux_lemma => kernel_rfl) ?_
    refine Great.wpList_runTo rfl (some 11) rfl (.int .i64 q.t) W (ev_load 3 10 (.pointer (some ⟨b4, 1, none⟩)) (.int .i64 q.t) rfl (by kernel_rfl) (ld3 d1)) ?_
    refine wpList_callR rfl (some 12) rfl 34 _ (by kernel_rfl) (NW.mono fun e w' h => (⟨_, h.1, rfl, h.2⟩ : ∃ v, e = .returned v ∧ (v = ckV nw ∧ Fr no W w'))) ?_
    rintro _ w1 ⟨rfl, F1⟩
    clear NW
    have H4a := F1.heap H4 (fun x => x)
    have F2 := F0.and F1
    have s1 := F2.size
    clear F1 H4
    refine Great.wpList_allocTo rfl (some 7) rfl (.pointer (some ⟨w1.heap.size, 0, none⟩)) (.cells z13 61) (by as_aux_lemma => kernel_rfl) ?_
    have H7 := heap_alloc_new w1 (.cells z13 61)
    have F3 := (Fr.refl no w1).alloc z13 61
    have l4 := lt_of_heap H4a
    generalize w1.alloc (.cells z13 61) = W1 at *
    generalize hb7 : w1.heap.size = b7 at *
    have H7b := row_sets H7 rfl nw
    have F4 := F3.new (fr_sets W1 b7 0 (ckL nw)) (fun i hi e => by unfold Bk at e; omega)
    have H4b := F4.heap H4a (fun x => x)
    have F5 := F2.and F4
    have hwb : w.heap.size ≤ b7 := by omega
    have hb47 : b4 < b7 := by omega
    refine wpList_store_mid rfl 61 (.tmp 7) (.tmp 12) rfl b7 0 (ckL nw).toArray (by kernel_rfl) (by kernel_rfl) (by rw [ck_size]; exact there_row (cs := z13) H7) (by rw [ck_size]; exact info61) (ck_one _) ?_
    refine wpList_nil ?_
    have HI : Hid (_ ∧ _ ∧ _) := ⟨H4b, H7b, F5⟩
    clear H4a H4b H7 H7b F2 F3 F4 F5 s1 d0 d1 d2 d3 F0 l4 hb7
    show Exit.then _ _ Exit.normal _ (W1.setCells b7 0 (ckL nw))
    refine wp_letter (fun w' => w'.heap[b4]? = some (.cells (pkL q).toArray 66 (0, 0)) ∧ w'.heap[b7]? = some (.cells (ckL nw).toArray 61 (0, 0)) ∧ Fr no w w') HI.out ?_
    intro W3 H3
    have HI2 : Hid (_ ∧ _ ∧ _) := H3
    clear H3 HI
    obtain ⟨d0, d1, d2, d3⟩ := cells4 HI2.out.1
    refine wp_seq ?_
    apply wp_region_lit
    refine Great.wpList_runTo rfl (some 13) rfl (.int .i64 kd) W3 (by as_aux_lemma => kernel_rfl) ?_
    refine Great.wpList_runTo rfl (some 14) rfl (.pointer (some ⟨b4, 2, none⟩)) W3 (by as_aux_lemma => kernel_rfl) ?_
    refine Great.wpList_runTo rfl (some 15) rfl (.int .i64 q.a) W3 (ev_load 3 14 (.pointer (some ⟨b4, 2, none⟩)) (.int .i64 q.a) rfl (by kernel_rfl) (ld3 d2)) ?_
    refine Great.wpList_runTo rfl (some 16) rfl (.pointer (some ⟨b4, 3, none⟩)) W3 (by as_aux_lemma => kernel_rfl) ?_
    refine Great.wpList_runTo rfl (some 17) rfl (.int .i64 q.i) W3 (ev_load 3 16 (.pointer (some ⟨b4, 3, none⟩)) (.int .i64 q.i) rfl (by kernel_rfl) (ld3 d3)) ?_
    refine Great.wpList_runTo rfl (some 18) rfl (pkV ⟨kd, 0, q.a, q.i⟩) W3 (by as_aux_lemma => kernel_rfl) ?_
    refine Great.wpList_allocTo rfl (some 8) rfl (.pointer (some ⟨W3.heap.size, 0, none⟩)) (.cells z4 66) (by as_aux_lemma => kernel_rfl) ?_
    have h8 := heap_alloc_new W3 (.cells z4 66)
    have f8 := (Fr.refl no W3).alloc z4 66
    generalize W3.alloc (.cells z4 66) = W4 at *
    generalize hbb : W3.heap.size = b8 at *
    have ht8 : W4.there b8 0 4 := there_row h8
    refine wpList_store_mid rfl 66 (.tmp 8) (.tmp 18) rfl b8 0 (pkL ⟨kd, 0, q.a, q.i⟩).toArray (by kernel_rfl) (by kernel_rfl) ht8 info66 (pk_one _) ?_
    refine wpList_nil ?_
    have hsr := World.rangeAt_setCells_same W4 b8 0 (pkL ⟨kd, 0, q.a, q.i⟩) ht8
    have hrow : (W4.setCells b8 0 (pkL ⟨kd, 0, q.a, q.i⟩)).heap[b8]? = some (.cells (pkL ⟨kd, 0, q.a, q.i⟩).toArray 66 (0, 0)) := by
      obtain ⟨cs, r1, r2⟩ := row_set (p := b8) (t := 66) (m := 4) (pkL ⟨kd, 0, q.a, q.i⟩) 0 W4 ⟨_, h8, rfl⟩
      exact row_is r1 r2 hsr
    have l7 := lt_of_heap HI2.out.2.1
    have hwb8 : w.heap.size ≤ b8 := by omega
    have f9 := f8.new (fr_sets W4 b8 0 (pkL ⟨kd, 0, q.a, q.i⟩)) (fun i hi e => by unfold Bk at e; omega)
    have hUM : UM w (W4.setCells b8 0 (pkL ⟨kd, 0, q.a, q.i⟩)) b4 b7 b8 q ⟨kd, (0 : Nat), q.a, q.i⟩ nw := ⟨f9.heap HI2.out.1 (fun x => x), f9.heap HI2.out.2.1 (fun x => x), hrow, HI2.out.2.2.and f9⟩
    show Exit.then _ _ Exit.normal _ (W4.setCells b8 0 (pkL ⟨kd, 0, q.a, q.i⟩))
    refine wp_letter (fun w' => UM w w' b4 b7 b8 q ⟨kd, (0 : Nat), q.a, q.i⟩ nw) hUM ?_
    intro W5 H5
    have HU : Hid _ := H5
    have hne1 : b4 ≠ b8 := by omega
    have hne2 : b7 ≠ b8 := by omega
    clear H5 hUM f9 hsr hrow ht8 h8 f8 HI2 d0 d1 d2 d3 hbb l7
    go_wp2_with fail
    try go_step3
    rename_i hk
    exact hk _ _ (h0 _ _ ⟨b7, b8, 0, _, _, _, _, _, _, _, _, _, _, _, _, _, _, _, _, _, _, _, _, _, _, _, _, _, _, _, _, _, _, _, _, _, _, _, _, _, rfl, by omega, ⟨hne1, hne2, hwb8⟩, fun i hi => by omega, HU.out⟩)
  · rintro x wr ⟨b7, b8, j, u1, u2, u3, u5, u6, u9, u10, u11, u12, u13, u14, u15, u16, u17, u18, u19, u20, u21, u22, u23, u24, u25, u26, u27, u28, u29, u30, u31, u32, u33, u34, u35, u36, u37, u38, u39, u40, rfl, hj, ⟨hne1, hne2, hwb8⟩, HJ, HR⟩ K hjp hr hn
    obtain ⟨d0, d1, d2, d3⟩ := cells4 HR.out.h8
    have fz := row_froz HR.out.h8
    have hm := atJ_of HR.out
    have HMs : Hid _ := hm
    clear hm
    have hj0 : (0 : Int) ≤ (j : Int) := by omega
    dsimp only at d0 d1 d2 d3
    by_cases hlt : j < 12
    · have hlt' : (j : Int) < 12 := by omega
      have hne : ((j : Int) == 12) = false := by simp; omega
      have H2 : Hid _ := HR.out.step hne1 hne2 hwb8 ((j : Int) + 1)
      go_upto_region 6 with fail
      refine wp_letter (fun w' => UM w w' b4 b7 b8 q ⟨kd, (j : Int) + 1, q.a, q.i⟩ nw) H2.out ?_
      intro W6 H6
      have HU6 : Hid _ := H6
      clear H6 H2 fz d0 d1 d2 d3
      have next : ∀ W7, Fr no W6 W7 → unoP F tn kd q.a q.i (j + 1) = false → (∀ i, i < j + 1 → unoP F tn kd q.a q.i (i + 1) = false) ∧ UM w W7 b4 b7 b8 q ⟨kd, (j + 1 : Nat), q.a, q.i⟩ nw ∧ atJ b8 W7 < atJ b8 wr := fun W7 f7 hu => by
        have hU := HU6.out.keep f7
        refine ⟨fun i hi => ?_, by exact_mod_cast hU, ?_⟩
        · rcases Nat.lt_succ_iff_lt_or_eq.1 hi with h | rfl
          · exact HJ.out i h
          · exact hu
        · rw [atJ_of hU, HMs.out]
          show 12 - ((j : Int) + 1).toNat < 12 - (j : Int).toNat
          omega
      have HNX : Hid _ := next
      clear next
      by_cases e : j + 1 = tn
      · have HE : Hid (unoP F tn kd q.a q.i (j + 1) = false) := by
          unfold Hid unoP
          rw [e]
          simp
        have e2 : (j : Int) + 1 = (tn : Int) := by omega
        refine use_then ?_ (fun _ _ h => h)
        refine reg48t W6 p b4 b7 b8 q.t (fun w' f => ⟨(e2.trans HQT.out.symm) ▸ f.cell (cells4 HU6.out.h8).2.1 (fun x => x), f.cell (cells4 HU6.out.h4).2.1 (fun x => x)⟩) _ _ _ _ _ _ _ _ _ _ _ _ _ _ _ _ _ _ _ _ _ _ _ _ _ _ _ _ _ _ _ _ _ _ _ _ _ _ ?_
        intro W7 f7
        have HF7 : Hid _ := HNX.out W7 f7 HE.out
        clear f7
        show Exit.then _ _ Exit.normal _ _
        go_wp2_with fail
        go_step3
        exact hjp _ _ ⟨b7, b8, j + 1, _, _, _, _, _, _, _, _, _, _, _, _, _, _, _, _, _, _, _, _, _, _, _, _, _, _, _, _, _, _, _, _, _, _, _, _, _, rfl, by omega, ⟨hne1, hne2, hwb8⟩, HF7.out.1, HF7.out.2.1⟩ HF7.out.2.2
      · have e2 : (j : Int) + 1 ≠ (tn : Int) := by omega
        have hOk : (⟨kd, (j : Int) + 1, q.a, q.i⟩ : Pk).Ok := ⟨hkd, by dsimp only; unfold In; omega, hq.a, hq.i⟩
        refine use_then ?_ (fun _ _ h => h)
        refine reg48f W6 p b4 b7 b8 ((j : Int) + 1) q.t (fun h => e2 (h.trans HQT.out)) v ⟨kd, (j : Int) + 1, q.a, q.i⟩ (getP F ⟨kd, (j : Int) + 1, q.a, q.i⟩) nw (fun w' f => ⟨f.cell (cells4 HU6.out.h8).2.1 (fun x => x), f.cell (cells4 HU6.out.h4).2.1 (fun x => x), (HU6.out.f.and f).cell HC0.out (fun x => x), f.heap HU6.out.h8 (fun x => x), HM.out.look (HU6.out.f.and f) hOk, range_row (f.heap HU6.out.h7 (fun x => x))⟩) _ _ _ _ _ _ _ _ _ _ _ _ _ _ _ _ _ _ _ _ _ _ _ _ _ _ _ _ _ _ _ _ _ _ _ _ _ _ ?_
        intro W7 f7
        have HF7 : Hid _ := f7
        clear f7
        generalize hbe : beforeB (getP F ⟨kd, (j : Int) + 1, q.a, q.i⟩) nw = be
        have hun : unoP F tn kd q.a q.i (j + 1) = !be := by
          unfold unoP
          rw [HNW.out, decide_eq_true e, Bool.true_and, ← hbe]
          rfl
        have HUN : Hid _ := hun
        clear hun hbe
        cases be
        · have hr2 : res = true := HRES.out.symm.trans (uno_yes hlt HUN.out)
          subst hr2
          show Exit.then _ _ Exit.normal _ _
          go_wp2_with fail
          refine hr _ _ ?_
          go_ret
          exact ⟨rfl, HU6.out.f.and HF7.out⟩
        · have HF8 : Hid _ := HNX.out W7 HF7.out HUN.out
          show Exit.then _ _ Exit.normal _ _
          go_wp2_with fail
          go_step3
          exact hjp _ _ ⟨b7, b8, j + 1, _, _, _, _, _, _, _, _, _, _, _, _, _, _, _, _, _, _, _, _, _, _, _, _, _, _, _, _, _, _, _, _, _, _, _, _, _, rfl, by omega, ⟨hne1, hne2, hwb8⟩, HF8.out.1, HF8.out.2.1⟩ HF8.out.2.2
    · obtain rfl : j = 12 := by omega
      have hr2 : res = false := HRES.out.symm.trans (uno_no HJ.out)
      subst hr2
      have HFR : Hid _ := HR.out.f
      go_wp2_with fail
      refine hr _ _ ?_
      go_ret
      exact ⟨rfl, HFR.out⟩
end Go.Proofs.Ytnineggppoipiaa
