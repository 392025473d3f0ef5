/- The document's clocks: which is one, Join, Before. -/
import Derived.Test.YtnineggppoipiaaLt
import Derived.Test.YtnineggppoipiaaCut
import Derived.Lib.SmallJoins
import Derived.BigQuiet
import Derived.BigRegion
import Derived.Deep.AppendSrc
import Derived.Deep.DeepCutAuto
import Derived.Deep.LoopGhost
import Derived.Deep.MidRow
import Derived.Deep.QuietTactic
import Derived.Deep.RegionHeld3
import Derived.Deep.RegionLaw
import Derived.Deep.RegionWith
import Derived.WalkLawsBesides
import Derived.WalkMore
namespace Go.Proofs.Ytnineggppoipiaa
open Go.ChangeShapes Go.WideShapes Go.ChangeAt Go.RowKit

def isB (t : Int) : Bool := decide (1 ≤ t) && decide (t ≤ 12)
theorem is_any (w : World) (t : Int) : Calls Try.prog 36 #[.int .i64 t] w fun e w' => e = .returned (.bool (isB t)) ∧ w' = w := by
  unfold isB
  by_cases h1 : 1 ≤ t
  · by_cases h2 : t ≤ 12
    · rw [decide_eq_true h1, decide_eq_true h2]
      go_enter Try.func36, Try.ntmps36
      go_wp2_with fail
      go_ret
      exact ⟨by simp, rfl⟩
    · rw [decide_eq_true h1, decide_eq_false h2]
      go_enter Try.func36, Try.ntmps36
      go_wp2_with fail
      go_ret
      exact ⟨by simp, rfl⟩
  · rw [decide_eq_false h1, Bool.false_and]
    go_enter Try.func36, Try.ntmps36
    go_wp2_with fail
    go_ret
    exact ⟨rfl, rfl⟩

/-- A clock's numbers are small. -/
def Bd (c : Nat → Int) : Prop := ∀ j, 0 ≤ c j ∧ c j ≤ 1000000
def ckV (c : Nat → Int) : Value := .agg (ckL c).toArray
theorem ckL_len (c : Nat → Int) : (ckL c).length = 13 := by simp [ckL]
theorem ckL_get (c : Nat → Int) (j : Nat) (h : j < 13) : (ckL c)[j]? = some (.int .i64 (c j)) := by
  unfold ckL
  rw [List.getElem?_map, List.getElem?_range h]
  rfl
theorem ckL_set (c : Nat → Int) (j : Nat) (v : Int) : (ckL c).set j (.int .i64 v) = ckL (fun i => if i = j then v else c i) := by
  apply List.ext_getElem?
  intro i
  by_cases hi : i < 13
  · rw [ckL_get _ i hi]
    by_cases hij : i = j
    · subst hij
      rw [List.getElem?_set_self (by rw [ckL_len]; exact hi), if_pos rfl]
    · rw [List.getElem?_set_ne (fun e => hij e.symm), ckL_get _ i hi, if_neg hij]
  · rw [List.getElem?_eq_none (by rw [List.length_set, ckL_len]; omega), List.getElem?_eq_none (by rw [ckL_len]; omega)]

def joinC (a b : Nat → Int) : Nat → Int := fun j => max (a j) (b j)
/-- Joined up to a place. -/
def mixC (a b : Nat → Int) (k : Nat) : Nat → Int := fun j => if j < k then max (a j) (b j) else a j
theorem mixC_step (a b : Nat → Int) (k : Nat) : (fun i => if i = k then max (a k) (b k) else mixC a b k i) = mixC a b (k + 1) := by
  funext i
  unfold mixC
  by_cases h : i = k
  · subst h
    simp
  · by_cases h2 : i < k
    · rw [if_neg h, if_pos h2, if_pos (by omega)]
    · rw [if_neg h, if_neg h2, if_neg (by omega)]
theorem mixC_all (a b : Nat → Int) : ckL (mixC a b 13) = ckL (joinC a b) := by
  unfold ckL
  apply List.map_congr_left
  intro j hj
  have : j < 13 := by simpa using hj
  unfold mixC joinC
  rw [if_pos this]

theorem row_cell {w : World} {b : Nat} {c : Nat → Int} {t : TypeId} (h : w.heap[b]? = some (.cells (ckL c).toArray t (0, 0))) {j : Nat} (hj : j < 13) : w.cell? ⟨b, j, none⟩ = some (.int .i64 (c j)) := by
  unfold World.cell?
  rw [h]
  simp [ckL_get c j hj]
theorem row_froz {w : World} {b : Nat} {c : Array Value} {t : TypeId} (h : w.heap[b]? = some (.cells c t (0, 0))) (o : Nat) : w.frozen? ⟨b, o, none⟩ = false := by
  unfold World.frozen?
  rw [h]
  simp

theorem boxes3c (w : World) (A B C : Array Value) : ∃ W b c d, ((w.alloc (.cells A 36)).alloc (.cells B 36)).alloc (.cells C 36) = W ∧ w.heap.size + 1 + 1 = d ∧ w.heap.size + 1 = c ∧ w.heap.size = b ∧ W.heap[b]? = some (.cells A 36 (0, 0)) ∧ W.heap[c]? = some (.cells B 36 (0, 0)) ∧ W.heap[d]? = some (.cells C 36 (0, 0)) ∧ Fr no w W := by
  have h1 : (w.alloc (.cells A 36)).heap.size = w.heap.size + 1 := by simp
  have h2 : ((w.alloc (.cells A 36)).alloc (.cells B 36)).heap.size = w.heap.size + 1 + 1 := by simp
  have e2 := heap_alloc_new w (.cells A 36)
  have e3 := heap_alloc_new (w.alloc (.cells A 36)) (.cells B 36)
  have e4 := heap_alloc_new ((w.alloc (.cells A 36)).alloc (.cells B 36)) (.cells C 36)
  rw [h1] at e3
  rw [h2] at e4
  exact ⟨_, _, _, _, rfl, rfl, rfl, rfl, ((Fr.refl no _).alloc _ _).heap (((Fr.refl no _).alloc _ _).heap e2 (fun f => f)) (fun f => f), ((Fr.refl no _).alloc _ _).heap e3 (fun f => f), e4, (((Fr.refl no w).alloc _ _).alloc _ _).alloc _ _⟩

theorem boxes2c (w : World) (A B : Array Value) : ∃ W b c, (w.alloc (.cells A 36)).alloc (.cells B 36) = W ∧ w.heap.size + 1 = c ∧ w.heap.size = b ∧ W.heap[b]? = some (.cells A 36 (0, 0)) ∧ W.heap[c]? = some (.cells B 36 (0, 0)) ∧ Fr no w W := by
  have h1 : (w.alloc (.cells A 36)).heap.size = w.heap.size + 1 := by simp
  have e2 := heap_alloc_new w (.cells A 36)
  have e3 := heap_alloc_new (w.alloc (.cells A 36)) (.cells B 36)
  rw [h1] at e3
  exact ⟨_, _, _, rfl, rfl, rfl, ((Fr.refl no _).alloc _ _).heap e2 (fun f => f), e3, ((Fr.refl no w).alloc _ _).alloc _ _⟩
/-- Block p alone. -/
def Bk (p : Nat) : Nat → Prop := fun k => k = p
theorem Fr.bk {p : Nat} {a b c : World} (h : Fr (Bk p) a b) (k : Fr (Bk p) b c) : Fr (Bk p) a c := h.trans k (fun _ _ f => f) (fun _ _ f => f)
theorem Fr.tob {p : Nat} {a b : World} (h : Fr no a b) : Fr (Bk p) a b := h.mono (fun _ _ f => f.elim)
theorem Fr.newBk {r : Nat} {w a b : World} (h : Fr no w a) (k : Fr (Bk r) a b) (hr : w.heap.size ≤ r) : Fr no w b := h.new k (fun i hi e => by unfold Bk at e; omega)
theorem Fr.bkNew {p r : Nat} {w a b : World} (h : Fr (Bk p) w a) (k : Fr (Bk r) a b) (hr : w.heap.size ≤ r) : Fr (Bk p) w b := h.trans k (fun _ _ f => f) (fun i hi e => by unfold Bk at e; omega)
theorem heap_set {w : World} {g o : Nat} {x : Array Value} {t : TypeId} {u : Value} (h : w.heap[g]? = some (.cells x t (0, 0))) : (w.setCell ⟨g, o, none⟩ u).heap[g]? = some (.cells (x.setIfInBounds o u) t (0, 0)) := by
  unfold World.setCell
  simp only [Array.getElem?_modify, if_true, h, Option.map_some]
  rfl
theorem fr_set (w : World) (g o : Nat) (u : Value) : Fr (Bk g) w (w.setCell ⟨g, o, none⟩ u) := (Fr.refl (Bk g) w).setCell (p := ⟨g, o, none⟩) (fun _ => rfl) u
theorem ck_one (c : Nat → Int) : (ckL c).toArray.all (·.oneCell') = true := by
  rw [Array.all_eq_true_iff_forall_mem]
  intro v hv
  simp only [ckL, List.mem_toArray, List.mem_map] at hv
  obtain ⟨j, _, rfl⟩ := hv
  rfl
theorem ck_size (c : Nat → Int) : (ckL c).toArray.size = 13 := by simp [ckL]
theorem info36 : (Try.prog.info? 36).map (·.size) = some 13 := by kernel_rfl
/-- A clock is read. -/
theorem ld_ck {w : World} {b o : Nat} {c : Nat → Int} (h : w.rangeAt b o (ckL c)) : (Instr.loadAt 36 (.pointer (some ⟨b, o, none⟩))).run Try.prog w = .ok (ckV c) w :=
  run_loadAt_mid (P := Try.prog) w b o 36 (ckL c) _ h Try.underlying36 rfl (by rw [ckL_len]; exact info36)
/-- A clock is written. -/
theorem st_ck {w : World} {b o : Nat} (c : Nat → Int) (h : w.there b o 13) : (Instr.storeAt 36 (.pointer (some ⟨b, o, none⟩)) (ckV c)).run Try.prog w = .ok () (w.setCells b o (ckL c)) :=
  run_storeAt_mid (P := Try.prog) w b o 36 (ckL c).toArray (by rw [ck_size]; exact h) (by rw [ck_size]; exact info36) (ck_one c)
theorem range_row {w : World} {b : Nat} {c : Nat → Int} {t : TypeId} (h : w.heap[b]? = some (.cells (ckL c).toArray t (0, 0))) : w.rangeAt b 0 (ckL c) := fun j v hv => by
  unfold World.cell?
  rw [h]
  simpa using hv
theorem there_row {w : World} {b : Nat} {cs : Array Value} {t : TypeId} (h : w.heap[b]? = some (.cells cs t (0, 0))) : w.there b 0 cs.size := fun j hj => by
  refine ⟨?_, ?_⟩
  · unfold World.cell?
    rw [h]
    simp [hj]
  · unfold World.frozen?
    rw [h]
    simp
theorem fr_sets (w : World) (b o : Nat) (vs : List Value) : Fr (Bk b) w (w.setCells b o vs) := by
  induction vs generalizing w o with
  | nil => exact Fr.refl _ w
  | cons v vs ih => exact (fr_set w b o v).bk (ih _ _)
theorem ret_ck {f : Func} {R : Ending → World → Prop} {W : World} {b : Nat} {c : Nat → Int} {tmps : Array Value} (h : W.rangeAt b 0 (ckL c)) (hR : R (.returned (ckV c)) W) (hf : f.results = #[.cell 4 36] := by kernel_rfl) (h2 : tmps.getD 4 undef = .pointer (some ⟨b, 0, none⟩) := by kernel_rfl) :
    bodyPost Try.prog f R .ret { tmps := tmps, defers := [] } W := by
  have hl := run_loadVar_mid (P := Try.prog) W b 0 36 (ckL c) _ h Try.underlying36 rfl (by rw [ckL_len]; exact info36)
  have h2' : tmps[4]?.getD undef = .pointer (some ⟨b, 0, none⟩) := by simpa using h2
  refine bodyPost_ret (v := ckV c) ?_ rfl hR
  simp [results, hf, asAddr, h2', hl, ckV]
def z13 : Array Value := #[.int .i64 0, .int .i64 0, .int .i64 0, .int .i64 0, .int .i64 0, .int .i64 0, .int .i64 0, .int .i64 0, .int .i64 0, .int .i64 0, .int .i64 0, .int .i64 0, .int .i64 0]

set_option maxRecDepth 100000 in
set_option maxHeartbeats 1000000 in
theorem join_any (w : World) (a b : Nat → Int) (ha : Bd a) (hb : Bd b) : Calls Try.prog 37 #[ckV a, ckV b] w fun e w' => e = .returned (ckV (joinC a b)) ∧ Fr no w w' := by
  obtain ⟨W, b2, b3, b4, eW, e4, e3, e2, H2, H3, H4, F0⟩ := boxes3c w (ckL a).toArray (ckL b).toArray z13
  unfold ckV
  have H0 : Hid (_ ∧ _ ∧ _ ∧ _) := ⟨eW, e4, e3, e2⟩
  unfold z13 at H0 H4
  clear eW e4 e3 e2
  go_enter Try.func37, Try.ntmps37
  go_upto_region 1 with fail
  rw [H0.out.1, H0.out.2.1, H0.out.2.2.1, H0.out.2.2.2]
  have hb23 : b2 < b3 := by have := H0.out; omega
  have hb34 : b3 < b4 := by have := H0.out; omega
  have hwb : w.heap.size ≤ b2 := by have := H0.out; omega
  clear H0
  have HI : Hid (_ ∧ _ ∧ _ ∧ _) := ⟨H2, H3, H4, F0⟩
  clear H2 H3 H4 F0
  go_wp2_with fail
  go_loopw [5] (fun iv wr => ∃ k : Nat, iv = .int .i64 (k : Int) ∧ k ≤ 13 ∧ Hid (wr.heap[b2]? = some (.cells (ckL (mixC a b k)).toArray 36 (0, 0)) ∧ wr.heap[b3]? = some (.cells (ckL b).toArray 36 (0, 0)) ∧ wr.heap[b4]? = some (.cells z13 36 (0, 0)) ∧ Fr no w wr)) (fun iv _ => 13 - (intOf iv).toNat)
  case atStart => exact ⟨0, rfl, by omega, HI⟩
  case round =>
    obtain ⟨k, rfl, hk, HJ⟩ := hrel
    clear HI
    have hk0 : (0 : Int) ≤ (k : Int) := by omega
    by_cases hlt : k < 13
    · have hlt' : (k : Int) < 13 := by omega
      have c1 := row_cell HJ.out.1 hlt
      have c2 := row_cell HJ.out.2.1 hlt
      have fz := row_froz HJ.out.1
      have hm : mixC a b k k = a k := if_neg (Nat.lt_irrefl k)
      rw [hm] at c1
      have ha1 := ha k
      have hb1 := hb k
      have hw1 : IntKind.i64.wrap (a k) = a k := wrap_small _ (by omega) (by omega)
      have hw2 : IntKind.i64.wrap (b k) = b k := wrap_small _ (by omega) (by omega)
      have HN : Hid (∀ v : Int, v = max (a k) (b k) → (wr.setCell ⟨b2, k, none⟩ (.int .i64 v)).drew.heap[b2]? = some (.cells (ckL (mixC a b (k + 1))).toArray 36 (0, 0)) ∧ (wr.setCell ⟨b2, k, none⟩ (.int .i64 v)).drew.heap[b3]? = some (.cells (ckL b).toArray 36 (0, 0)) ∧ (wr.setCell ⟨b2, k, none⟩ (.int .i64 v)).drew.heap[b4]? = some (.cells z13 36 (0, 0)) ∧ Fr no w (wr.setCell ⟨b2, k, none⟩ (.int .i64 v)).drew) := fun v hv => by
        obtain ⟨h1, h2, h3, h4⟩ := HJ.out
        have hs := heap_set (o := k) (u := .int .i64 v) h1
        rw [List.setIfInBounds_toArray, ckL_set, hv, mixC_step] at hs
        have G := fr_set wr b2 k (.int .i64 v)
        rw [← hv] at hs
        exact ⟨hs, G.heap h2 (by unfold Bk; omega), G.heap h3 (by unfold Bk; omega), (h4.newBk G hwb).drew⟩
      clear hm
      go_wp2_with fail
      go_region
      have HW := HN.out (if a k < b k then b k else a k) (by split <;> omega)
      have HWW : Hid _ := HW
      clear HW HN c1 c2 fz
      go_wp2_with fail
      go_roundw
      case rel => exact ⟨k + 1, by congr 1, by omega, HWW⟩
      case measure => simp [intOf]; omega
    · obtain rfl : k = 13 := by omega
      have H2 := HJ.out.1
      rw [mixC_all] at H2
      have ht : wr.there b4 0 13 := there_row HJ.out.2.2.1
      have hr := World.rangeAt_setCells_same wr b4 0 (ckL (joinC a b)) (by rw [ckL_len]; exact ht)
      have HF := HJ.out.2.2.2.newBk (fr_sets wr b4 0 (ckL (joinC a b))) (by omega)
      have HX : Hid (_ ∧ _) := ⟨hr, HF⟩
      have HL : Hid (_ ∧ _) := ⟨range_row H2, ht⟩
      clear hr HF H2 HJ ht
      go_upto_region 5 with fail
      apply wp_region_lit
      refine wpList_load_mid rfl 36 (.tmp 2) rfl b2 0 rfl (ckL (joinC a b)) _ HL.out.1 Try.underlying36 rfl (by rw [ckL_len]; exact info36) ?_
      refine wpList_store_mid rfl 36 (.tmp 4) (.tmp 19) rfl b4 0 (ckL (joinC a b)).toArray rfl rfl (by rw [ck_size]; exact HL.out.2) (by rw [ck_size]; exact info36) (ck_one _) ?_
      refine wpList_nil ?_
      show Exit.then _ _ Exit.normal _ _
      go_wp2_with fail
      refine ret_ck HX.out.1 ?_
      exact ⟨rfl, HX.out.2⟩

/-- The first clock is nowhere above the other. -/
def beforeB (a b : Nat → Int) : Bool := (List.range 13).all fun j => decide (a j ≤ b j)
theorem before_no {a b : Nat → Int} {k : Nat} (hk : k < 13) (h : b k < a k) : beforeB a b = false := by
  unfold beforeB
  rw [List.all_eq_false]
  exact ⟨k, by simpa using hk, by simp; omega⟩
theorem before_yes {a b : Nat → Int} (h : ∀ j, j < 13 → a j ≤ b j) : beforeB a b = true := by
  unfold beforeB
  rw [List.all_eq_true]
  intro j hj
  simpa using h j (by simpa using hj)

set_option maxRecDepth 100000 in
theorem before_any (w : World) (a b : Nat → Int) : Calls Try.prog 43 #[ckV a, ckV b] w fun e w' => e = .returned (.bool (beforeB a b)) ∧ Fr no w w' := by
  obtain ⟨W, b2, b3, eW, e3, e2, H2, H3, F0⟩ := boxes2c w (ckL a).toArray (ckL b).toArray
  generalize hres : beforeB a b = res
  have HR : Hid (beforeB a b = res) := hres
  clear hres
  unfold ckV
  have H0 : Hid (_ ∧ _ ∧ _) := ⟨eW, e3, e2⟩
  clear eW e3 e2
  go_enter Try.func43, Try.ntmps43
  go_upto_region 1 with fail
  rw [H0.out.1, H0.out.2.1, H0.out.2.2]
  clear H0
  have HI : Hid (_ ∧ _ ∧ _) := ⟨H2, H3, F0⟩
  clear H2 H3 F0
  go_wp2_with fail
  go_loopw [5] (fun iv wr => ∃ k n : Nat, iv = .int .i64 (k : Int) ∧ k ≤ 13 ∧ wr = W.drewN n ∧ Hid (∀ j, j < k → a j ≤ b j)) (fun iv _ => 13 - (intOf iv).toNat)
  case atStart => exact ⟨0, 0, rfl, by omega, rfl, fun j h => by omega⟩
  case round =>
    obtain ⟨k, n, rfl, hk, hwr, HK⟩ := hrel
    have hk0 : (0 : Int) ≤ (k : Int) := by omega
    have HWR : Hid (wr = W.drewN n) := hwr
    by_cases hlt : k < 13
    · have hlt' : (k : Int) < 13 := by omega
      have c1 : wr.cell? ⟨b2, k, none⟩ = some (.int .i64 (a k)) := by rw [hwr]; exact row_cell HI.out.1 hlt
      have c2 : wr.cell? ⟨b3, k, none⟩ = some (.int .i64 (b k)) := by rw [hwr]; exact row_cell HI.out.2.1 hlt
      clear hwr
      by_cases hab : b k < a k
      · have hR : res = false := HR.out.symm.trans (before_no hlt hab)
        subst hR
        go_wp2_with fail
        go_quiet (fail)
        go_wp2_with fail
        go_ret
        exact ⟨rfl, by rw [HWR.out]; exact (HI.out.2.2.drewN _).drewN _⟩
      · have HK2 : Hid (∀ j, j < k + 1 → a j ≤ b j) := fun j hj => by
          rcases Nat.lt_succ_iff_lt_or_eq.1 hj with h | rfl
          · exact HK.out j h
          · omega
        go_wp2_with fail
        go_quiet (fail)
        generalize hwq : World.drewN wr nq = wq
        have HQ : Hid (wq = W.drewN (n + nq)) := by rw [Hid, ← hwq, HWR.out]; simp
        clear hwq
        go_wp2_with fail
        go_roundw
        case rel => exact ⟨k + 1, n + nq, by congr 1, by omega, HQ.out, HK2⟩
        case measure => simp [intOf]; omega
    · have hR : res = true := HR.out.symm.trans (before_yes fun j hj => HK.out j (by omega))
      subst hR
      have hlt' : ¬ (k : Int) < 13 := by omega
      clear hwr
      go_wp2_with fail
      go_ret
      exact ⟨rfl, by rw [HWR.out]; exact HI.out.2.2.drewN _⟩
end Go.Proofs.Ytnineggppoipiaa
