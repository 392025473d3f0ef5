/- Enter. -/
import Derived.Test.YtkkpimpmhnnbjaaHn
namespace Go.Proofs.Ytkkpimpmhnnbjaa
open Go.ChangeShapes Go.WideShapes Go.ChangeAt Go.RowKit

def more (x : Lk) : Lk := { x with count := x.count + 1, fat := x.fat || decide (3 < x.count + 1) }

structure Ans (α : Type) where
  r : α
  err : Int
  S : Int → Option Lk
  N : Int → Int

def enterP (a t : Int) (S : Int → Option Lk) (N : Int → Int) : Ans Bool :=
  if a < 1 ∨ t < 1 ∨ 0 < N t then ⟨false, 130, S, N⟩
  else if ((S a).getD lk0).owner = t then ⟨true, 0, upd S a (some (more ((S a).getD lk0))), N⟩
  else if ((S a).getD lk0).owner = 0 then ⟨true, 0, upd S a (some (more { (S a).getD lk0 with owner := t })), N⟩
  else ⟨false, 0, upd S a (some { (S a).getD lk0 with fat := true, entry := ((S a).getD lk0).entry ++ [(t, 1)] }), upd N t (N t + 1)⟩

theorem TB.look2 {c : Nat} {w : World} {p n : Nat} {S : Int → Option Lk} {N : Int → Int} (h : TB c w p n S N) {t : Int} (ht : In t) :
    ∃ o, w.cell? ⟨p, 1, none⟩ = some (.map o) ∧ (Instr.lookup 59 (.map o) (.int .i64 t) false).run Try.prog w = .ok (.int .i64 (N t)) w := by
  rcases h with ⟨h1, h2, rfl, rfl⟩ | ⟨m1, m2, F, h⟩
  · exact ⟨none, (cells2 h2).2, look_nil2 w ht⟩
  · exact ⟨some m2, (cells2 h.tab).2, h.sm.look ht⟩

section
variable {P : Program} {a : Act} {w : World} {Q : Exit → Act → World → Prop}

/-- One label, ahead of which all jumps stand. -/
theorem wp_label_fwd {c R0 : Code} (l0 : Nat) (J0 : Act → World → Prop) (hf0 : findLabel c l0 = some (.seq .skip R0))
    (first : ∀ K : Exit → Act → World → Prop, (∀ a w, J0 a w → K (.goto l0) a w) → (∀ a w, J0 a w → R0.wp P K a w) → (∀ a w, Q .ret a w → K .ret a w) → c.wp P K a w)
    (pass0 : ∀ a w, J0 a w → ∀ K : Exit → Act → World → Prop, (∀ a w, Q .ret a w → K .ret a w) → R0.wp P K a w) :
    (Code.scope c).wp P Q a w := by
  refine wp_labels (fun l a w => l = l0 ∧ J0 a w) (fun _ _ _ => 0) ?_ ?_
  · exact first _ (fun a w h => ⟨rfl, h⟩) (fun a w h => pass0 a w h _ (fun _ _ h' => h')) (fun _ _ h => h)
  · rintro l a w ⟨rfl, h⟩
    exact ⟨R0, hf0, pass0 a w h _ (fun _ _ h' => h')⟩
end

def TakenAt (p q : Nat) (a t : Int) (I : World → Prop) (act : Act) (w : World) : Prop :=
  ∃ (u3 u4 u5 u6 u7 u9 u10 u11 u12 u13 u14 u15 u16 u17 u18 u19 u20 u21 u22 u23 u24 u25 u26 u27 u28 u29 u30 u31 u32 u33 u34 u35 u36 u37 u38 u39 u40 u41 u42 u43 u44 u45 u46 u47 u48 u49 u50 u51 u52 u53 u54 u55 u56 u57 u58 u59 u60 u61 u62 u63 u64 u65 u66 u67 u68 u69 u70 u71 u72 u73 u74 u75 u76 u77 : Value), act = { tmps := (.pointer (some ⟨p, 0, none⟩) :: .int .i64 a :: .int .i64 t :: u3 :: u4 :: u5 :: u6 :: u7 :: .pointer (some ⟨q, 0, none⟩) :: u9 :: u10 :: u11 :: u12 :: u13 :: u14 :: u15 :: u16 :: u17 :: u18 :: u19 :: u20 :: u21 :: u22 :: u23 :: u24 :: u25 :: u26 :: u27 :: u28 :: u29 :: u30 :: u31 :: u32 :: u33 :: u34 :: u35 :: u36 :: u37 :: u38 :: u39 :: u40 :: u41 :: u42 :: u43 :: u44 :: u45 :: u46 :: u47 :: u48 :: u49 :: u50 :: u51 :: u52 :: u53 :: u54 :: u55 :: u56 :: u57 :: u58 :: u59 :: u60 :: u61 :: u62 :: u63 :: u64 :: u65 :: u66 :: u67 :: u68 :: u69 :: u70 :: u71 :: u72 :: u73 :: u74 :: u75 :: u76 :: u77 :: []).toArray, defers := [] } ∧ I w

set_option maxRecDepth 100000 in
theorem enter_bad {c : Nat} {w : World} {p n : Nat} {S : Int → Option Lk} {N : Int → Int} (h : TB c w p n S N) (a t : Int) (ht : In t) (hb : a < 1 ∨ t < 1 ∨ 0 < N t) :
    Calls Try.prog 10 #[.pointer (some ⟨p, 0, none⟩), .int .i64 a, .int .i64 t] w fun e w' => e = .returned (.tuple #[.bool false, .int .i64 130]) ∧ w' = w := by
  obtain ⟨o, hc, hl⟩ := h.look2 ht
  clear h
  generalize N t = z at *
  by_cases h1 : a < 1
  · clear hb
    go_enter Try.func10, Try.ntmps10
    go_wp2_with fail
    refine wp_label_fwd 0 (fun _ _ => False) rfl ?_ (fun _ _ f => f.elim)
    intro K hg h0 hr
    go_wp2_with fail
    go_ret2
    exact ⟨rfl, rfl⟩
  · by_cases h2 : t < 1
    · clear hb
      go_enter Try.func10, Try.ntmps10
      go_wp2_with fail
      refine wp_label_fwd 0 (fun _ _ => False) rfl ?_ (fun _ _ f => f.elim)
      intro K hg h0 hr
      go_wp2_with fail
      go_ret2
      exact ⟨rfl, rfl⟩
    · have h3 : 0 < z := by omega
      clear hb
      go_enter Try.func10, Try.ntmps10
      go_wp2_with fail
      refine wp_label_fwd 0 (fun _ _ => False) rfl ?_ (fun _ _ f => f.elim)
      intro K hg h0 hr
      go_wp2_with fail
      go_ret2
      exact ⟨rfl, rfl⟩

/-- The lock in q is the thread's own, once less. -/
def Mine (c : Nat) (w0 : World) (p n q : Nat) (a : Int) (T : Int → Option Lk) (x : Lk) (N : Int → Int) (w : World) : Prop :=
  ∃ m1 m2 F y, TP c w p n m1 m2 F T N ∧ F a = some y ∧ y.q = q ∧ T a = some x ∧ Fr (Tm c w0) w0 w

theorem set1 {w : World} {q : Nat} {x : Lk} {e v : Value} {b : Int} (h : w.heap[q]? = some (.cells (lkC x e v) 66 (0, 0))) :
    (w.setCell ⟨q, 1, none⟩ (.int .i64 b)).heap[q]? = some (.cells (lkC { x with count := b } e v) 66 (0, 0)) := by
  unfold World.setCell
  simp [Array.getElem?_modify, h, lkC]

theorem set0 {w : World} {q : Nat} {x : Lk} {e v : Value} {b : Int} (h : w.heap[q]? = some (.cells (lkC x e v) 66 (0, 0))) :
    (w.setCell ⟨q, 0, none⟩ (.int .i64 b)).heap[q]? = some (.cells (lkC { x with owner := b } e v) 66 (0, 0)) := by
  unfold World.setCell
  simp [Array.getElem?_modify, h, lkC]

theorem set2 {w : World} {q : Nat} {x : Lk} {e v : Value} {b : Bool} (h : w.heap[q]? = some (.cells (lkC x e v) 66 (0, 0))) :
    (w.setCell ⟨q, 2, none⟩ (.bool b)).heap[q]? = some (.cells (lkC { x with fat := b } e v) 66 (0, 0)) := by
  unfold World.setCell
  simp [Array.getElem?_modify, h, lkC]

theorem set3 {w : World} {q : Nat} {x : Lk} {e v e' : Value} {l : List (Int × Int)} (h : w.heap[q]? = some (.cells (lkC x e v) 66 (0, 0))) :
    (w.setCell ⟨q, 3, none⟩ e').heap[q]? = some (.cells (lkC { x with entry := l } e' v) 66 (0, 0)) := by
  unfold World.setCell
  simp [Array.getElem?_modify, h, lkC]

theorem set4 {w : World} {q : Nat} {x : Lk} {e v v' : Value} {l : List (Int × Int)} (h : w.heap[q]? = some (.cells (lkC x e v) 66 (0, 0))) :
    (w.setCell ⟨q, 4, none⟩ v').heap[q]? = some (.cells (lkC { x with wait := l } e v') 66 (0, 0)) := by
  unfold World.setCell
  simp [Array.getElem?_modify, h, lkC]

set_option maxRecDepth 100000 in
set_option maxHeartbeats 1000000 in
theorem enter_own {c : Nat} {w : World} {p n : Nat} {S : Int → Option Lk} {N : Int → Int} (h : TB c w p n S N) (hn : n ≤ 800000) (a t : Int) (ha : In a) (ht : In t) (hb : ¬ (a < 1 ∨ t < 1 ∨ 0 < N t)) (hx : In (((S a).getD lk0).count + 1)) (ho : ((S a).getD lk0).owner = t ∨ ((S a).getD lk0).owner = 0) :
    Calls Try.prog 10 #[.pointer (some ⟨p, 0, none⟩), .int .i64 a, .int .i64 t] w fun e w' => e = .returned (.tuple #[.bool true, .int .i64 0]) ∧ TB c w' p (n + 1) (upd S a (some (more { (S a).getD lk0 with owner := t }))) N ∧ Fr (Tm c w) w w' := by
  obtain ⟨o, hc, hl⟩ := h.look2 ht
  have PL := place_any h (by omega) a ha
  have h1 : ¬ a < 1 := fun e => hb (.inl e)
  have h2 : ¬ t < 1 := fun e => hb (.inr (.inl e))
  have h3 : ¬ 0 < N t := fun e => hb (.inr (.inr e))
  clear h hb
  generalize hX : (S a).getD lk0 = X at *
  have ht0 : t ≠ 0 := by omega
  generalize hNt : N t = z at *
  go_enter Try.func10, Try.ntmps10
  go_wp2_with fail
  refine wp_label_fwd 0 (fun act w' => ∃ q, TakenAt p q a t (Mine c w p (n + 1) q a (upd S a (some { X with owner := t })) { X with owner := t } N) act w') rfl ?_ ?_
  · intro K hg h0 hr
    go_wp2_with fail
    refine PL.mono ?_
    rintro _ w1 ⟨m1, m2, F, y, rfl, t1, hy, f1⟩
    obtain ⟨x1, hx1, _, hq1, _⟩ := t1.lay hy
    rw [upd_same] at hx1
    obtain rfl := Option.some.inj hx1
    obtain ⟨d0, d1, -, -, -⟩ := cells5 hq1
    have z0 := thaw hq1 0
    by_cases he : X.owner = t
    · have HM : Hid (Mine c w p (n + 1) y.q a (upd S a (some { X with owner := t })) { X with owner := t } N w1) := by
        have e : ({ X with owner := t } : Lk) = X := by rw [← he]
        rw [e]
        exact ⟨m1, m2, F, y, t1, hy, rfl, upd_same _ _ _, f1⟩
      rw [he] at d0
      clear t1 f1 hq1 he ho PL hl hc hX
      go_wp2_with fail
      go_step3
      exact hg _ _ ⟨y.q, _, _, _, _, _, _, _, _, _, _, _, _, _, _, _, _, _, _, _, _, _, _, _, _, _, _, _, _, _, _, _, _, _, _, _, _, _, _, _, _, _, _, _, _, _, _, _, _, _, _, _, _, _, _, _, _, _, _, _, _, _, _, _, _, _, _, _, _, _, _, _, _, _, _, rfl, HM.out⟩
    · have h00 : X.owner = 0 := ho.resolve_left he
      have HM : Hid (Mine c w p (n + 1) y.q a (upd S a (some { X with owner := t })) { X with owner := t } N (w1.setCell ⟨y.q, 0, none⟩ (.int .i64 t))) := by
        obtain ⟨t2, f2⟩ := t1.turn hy (upd_same _ _ _) { X with owner := t } (fr_set w1 y.q 0 (.int .i64 t)) (set0 hq1) rfl rfl
        rw [upd_upd] at t2
        exact ⟨m1, m2, F, y, t2, hy, rfl, upd_same _ _ _, f1.tm f2⟩
      rw [h00] at d0
      have g0 : ((0 : Int) == t) = false := by simp; omega
      clear t1 f1 hq1 he ho PL hl hc hX h00
      go_wp2_with fail
      go_step3
      rename_i hk
      exact hk _ _ (h0 _ _ ⟨y.q, _, _, _, _, _, _, _, _, _, _, _, _, _, _, _, _, _, _, _, _, _, _, _, _, _, _, _, _, _, _, _, _, _, _, _, _, _, _, _, _, _, _, _, _, _, _, _, _, _, _, _, _, _, _, _, _, _, _, _, _, _, _, _, _, _, _, _, _, _, _, _, _, _, _, rfl, HM.out⟩)
  · rintro act w1 ⟨q, u3, u4, u5, u6, u7, u9, u10, u11, u12, u13, u14, u15, u16, u17, u18, u19, u20, u21, u22, u23, u24, u25, u26, u27, u28, u29, u30, u31, u32, u33, u34, u35, u36, u37, u38, u39, u40, u41, u42, u43, u44, u45, u46, u47, u48, u49, u50, u51, u52, u53, u54, u55, u56, u57, u58, u59, u60, u61, u62, u63, u64, u65, u66, u67, u68, u69, u70, u71, u72, u73, u74, u75, u76, u77, rfl, m1, m2, F, y, t1, hy, rfl, hx1, f1⟩ K hr
    obtain ⟨x1, hx2, _, hq1, _⟩ := t1.lay hy
    rw [hx1] at hx2
    obtain rfl := Option.some.inj hx2
    obtain ⟨d0, d1, d2, -, -⟩ := cells5 hq1
    have z1 := thaw hq1 1
    simp only [] at d1
    have hwr : IntKind.i64.wrap (X.count + 1) = X.count + 1 := by
      rw [IntKind.wrap_i64]
      unfold In at hx
      omega
    by_cases hc3 : 3 < X.count + 1
    · have z2 := thaw (set1 (b := X.count + 1) hq1) 2
      have d2' := (cells5 (set1 (b := X.count + 1) hq1)).2.2.1
      have HT : Hid (TB c ((w1.setCell ⟨y.q, 1, none⟩ (.int .i64 (X.count + 1))).setCell ⟨y.q, 2, none⟩ (.bool true)) p (n + 1) (upd S a (some (more { X with owner := t }))) N ∧ Fr (Tm c w) w ((w1.setCell ⟨y.q, 1, none⟩ (.int .i64 (X.count + 1))).setCell ⟨y.q, 2, none⟩ (.bool true))) := by
        obtain ⟨t2, f2⟩ := t1.turn hy hx1 { X with owner := t, count := X.count + 1, fat := true } (fr_eq (fr_set w1 y.q 1 (.int .i64 (X.count + 1))) (fr_set _ y.q 2 (.bool true))) (set2 (set1 hq1)) rfl rfl
        rw [upd_upd] at t2
        have e : more { X with owner := t } = { X with owner := t, count := X.count + 1, fat := true } := by simp [more, hc3]
        rw [e]
        exact ⟨.inr ⟨m1, m2, F, t2⟩, f1.tm f2⟩
      clear t1 f1 hq1 ho PL hl hc hX hx1
      go_wp2_with fail
      go_ret2
      exact ⟨rfl, HT.out⟩
    · have HT : Hid (TB c (w1.setCell ⟨y.q, 1, none⟩ (.int .i64 (X.count + 1))) p (n + 1) (upd S a (some (more { X with owner := t }))) N ∧ Fr (Tm c w) w (w1.setCell ⟨y.q, 1, none⟩ (.int .i64 (X.count + 1)))) := by
        obtain ⟨t2, f2⟩ := t1.turn hy hx1 { X with owner := t, count := X.count + 1 } (fr_set w1 y.q 1 (.int .i64 (X.count + 1))) (set1 hq1) rfl rfl
        rw [upd_upd] at t2
        have e : more { X with owner := t } = { X with owner := t, count := X.count + 1 } := by simp [more, hc3]
        rw [e]
        exact ⟨.inr ⟨m1, m2, F, t2⟩, f1.tm f2⟩
      clear t1 f1 hq1 ho PL hl hc hX hx1
      go_wp2_with fail
      go_ret2
      exact ⟨rfl, HT.out⟩
end Go.Proofs.Ytkkpimpmhnnbjaa
