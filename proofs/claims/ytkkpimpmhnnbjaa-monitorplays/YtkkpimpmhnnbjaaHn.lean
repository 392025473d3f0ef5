/- handOver. -/
import Derived.Test.YtkkpimpmhnnbjaaHo
namespace Go.Proofs.Ytkkpimpmhnnbjaa
open Go.ChangeShapes Go.WideShapes Go.ChangeAt Go.RowKit

def handS (S : Int → Option Lk) (a : Int) (x : Lk) : Int → Option Lk :=
  match x.entry with
  | [] => upd S a (if x.fat = true then some { x with owner := 0, count := 0 } else none)
  | e :: r => upd S a (some { x with owner := e.1, count := e.2, entry := r })

def handN (N : Int → Int) (x : Lk) : Int → Int :=
  match x.entry with
  | [] => N
  | e :: _ => upd N e.1 (N e.1 - 1)

def handR (x : Lk) : Int :=
  match x.entry with
  | [] => 0
  | e :: _ => e.1

theorem handS_nil {S : Int → Option Lk} {a : Int} {x : Lk} (h : x.entry = []) : handS S a x = upd S a (if x.fat = true then some { x with owner := 0, count := 0 } else none) := by
  unfold handS
  split
  · rfl
  · rename_i e; rw [h] at e; simp at e

theorem handS_cons {S : Int → Option Lk} {a : Int} {x : Lk} {e : Int × Int} {r : List (Int × Int)} (h : x.entry = e :: r) : handS S a x = upd S a (some { x with owner := e.1, count := e.2, entry := r }) := by
  unfold handS
  split
  · rename_i k; rw [h] at k; simp at k
  · rename_i k
    rw [h] at k
    simp only [List.cons.injEq] at k
    rw [k.1, k.2]

theorem elem64 : Try.prog.elem 64 = 68 := by kernel_rfl

/-- Two cells of a lock are set. -/
theorem set01 {w : World} {q : Nat} {x : Lk} {e v : Value} {a b : Int} (h : w.heap[q]? = some (.cells (lkC x e v) 66 (0, 0))) :
    ((w.setCell ⟨q, 0, none⟩ (.int .i64 a)).setCell ⟨q, 1, none⟩ (.int .i64 b)).heap[q]? = some (.cells (lkC { x with owner := a, count := b } e v) 66 (0, 0)) := by
  unfold World.setCell
  simp [Array.getElem?_modify, h, lkC]

theorem set10 {w : World} {q : Nat} {x : Lk} {e v : Value} {a b : Int} (h : w.heap[q]? = some (.cells (lkC x e v) 66 (0, 0))) :
    ((w.setCell ⟨q, 1, none⟩ (.int .i64 b)).setCell ⟨q, 0, none⟩ (.int .i64 a)).heap[q]? = some (.cells (lkC { x with owner := a, count := b } e v) 66 (0, 0)) := by
  unfold World.setCell
  simp [Array.getElem?_modify, h, lkC]

theorem fr_set (w : World) (q i : Nat) (u : Value) : Fr (fun k => k = q) w (w.setCell ⟨q, i, none⟩ u) := (Fr.refl (fun k => k = q) w).setCell (p := ⟨q, i, none⟩) (fun _ => rfl) u

theorem fr_eq {q : Nat} {a b d : World} (h : Fr (fun k => k = q) a b) (k : Fr (fun k => k = q) b d) : Fr (fun k => k = q) a d := h.trans k (fun _ _ e => e) (fun _ _ e => e)

/-- A lock turns, its lists stay where they are. -/
theorem TP.turn {c : Nat} {w w' : World} {p n m1 m2 : Nat} {F : Int → Option Lay} {S : Int → Option Lk} {N : Int → Int} (h : TP c w p n m1 m2 F S N) {a : Int} {y : Lay} (hy : F a = some y) {x : Lk} (hx : S a = some x) (x' : Lk)
    (hf : Fr (fun k => k = y.q) w w') (hq : w'.heap[y.q]? = some (.cells (lkC x' y.e y.v) 66 (0, 0))) (e1 : x'.entry = x.entry) (e2 : x'.wait = x.wait) :
    TP c w' p n m1 m2 F (upd S a (some x')) N ∧ Fr (Tm c w) w w' := by
  obtain ⟨x2, hx2, h1, h2, h3, h4, h5, h6⟩ := h.lay hy
  rw [hx] at hx2
  obtain rfl := Option.some.inj hx2
  have ha := h.away hy
  have := h.put hy x' y.e y.v (hf.mono (fun i _ e => .inl e)) hq (by rw [e1]; exact h3.kept hf (fun b hb e => ha.2.2.2.2 a y b hy (.inl hb) e)) (by rw [e2]; exact h4.kept hf (fun b hb e => ha.2.2.2.2 a y b hy (.inr hb) e)) (fun b _ hb => hb) (fun b _ hb => hb) (fun b hb => (h.apart a a y y hy hy).2.1 b hb)
  have e : upd F a (some ⟨y.q, y.e, y.v⟩) = F := by
    have : some (⟨y.q, y.e, y.v⟩ : Lay) = F a := hy.symm
    rw [this]
    exact upd_self F a
  rw [e] at this
  exact this

set_option maxRecDepth 100000 in
theorem hand_nil {c : Nat} {w : World} {p n m1 m2 : Nat} {F : Int → Option Lay} {S : Int → Option Lk} {N : Int → Int} (h : TP c w p n m1 m2 F S N) (a : Int) (ha : In a) (y : Lay) (hy : F a = some y) (x : Lk) (hx : S a = some x) (hn : x.entry = []) :
    Calls Try.prog 30 #[.pointer (some ⟨p, 0, none⟩), .int .i64 a, .pointer (some ⟨y.q, 0, none⟩)] w fun e w' => e = .returned (.int .i64 (handR x)) ∧ TB c w' p n (handS S a x) (handN N x) ∧ Fr (Tm c w) w w' := by
  obtain ⟨x2, hx2, h1, h2, h3, h4, h5, h6⟩ := h.lay hy
  rw [hx] at hx2
  obtain rfl := Option.some.inj hx2
  obtain ⟨d0, d1, d2, d3, d4⟩ := cells5 h2
  have z0 := thaw h2 0
  have z1 := thaw h2 1
  obtain ⟨o, cap, hf⟩ := h3.form
  rw [hn] at hf
  rw [hf] at d3
  simp only [List.length_nil] at d3
  obtain ⟨t1, f1⟩ := h.turn (w' := (w.setCell ⟨y.q, 0, none⟩ (.int .i64 0)).setCell ⟨y.q, 1, none⟩ (.int .i64 0)) hy hx { x with owner := 0, count := 0 } (fr_eq (fr_set _ _ _ _) (fr_set _ _ _ _)) (set01 h2) rfl rfl
  have hfat := (cells5 (set01 (a := 0) (b := 0) h2)).2.2.1
  simp only [] at hfat
  obtain ⟨hp0, hp1⟩ := cells2 t1.tab
  have HR : Hid (handR x = 0) := by unfold Hid handR; rw [hn]
  have HN : Hid (handN N x = N) := by unfold Hid handN; rw [hn]
  cases hb : x.fat with
  | true =>
    rw [hb] at hfat d2
    have HT : Hid (TB c ((w.setCell ⟨y.q, 0, none⟩ (.int .i64 0)).setCell ⟨y.q, 1, none⟩ (.int .i64 0)) p n (handS S a x) (handN N x) ∧ Fr (Tm c w) w ((w.setCell ⟨y.q, 0, none⟩ (.int .i64 0)).setCell ⟨y.q, 1, none⟩ (.int .i64 0))) := by
      refine ⟨.inr ⟨m1, m2, F, ?_⟩, f1⟩
      rw [HN.out, handS_nil hn, if_pos hb]
      exact t1
    clear h h2 h3 h4 h5 h6 t1 f1 hf hx hy hn hb
    go_enter Try.func30, Try.ntmps30
    go_wp2_with fail
    go_ret
    exact ⟨by rw [HR.out]; rfl, HT.out⟩
  | false =>
    rw [hb] at hfat d2
    obtain ⟨w2, hdel, s2, f2⟩ := t1.lm.drop ha 0
    obtain ⟨t2, g2⟩ := t1.del f2 s2
    rw [upd_upd] at t2
    have HT : Hid (TB c w2 p n (handS S a x) (handN N x) ∧ Fr (Tm c w) w w2) := by
      refine ⟨.inr ⟨m1, m2, upd F a none, ?_⟩, f1.tm g2⟩
      rw [HN.out, handS_nil hn, if_neg (by rw [hb]; decide)]
      exact t2
    clear h h2 h3 h4 h5 h6 t1 f1 hf hx hy hn hb t2 g2 s2 f2
    go_enter Try.func30, Try.ntmps30
    go_wp2_with fail
    go_ret
    exact ⟨by rw [HR.out]; rfl, HT.out⟩

set_option maxRecDepth 100000 in
theorem hand_cons {c : Nat} {w : World} {p n m1 m2 : Nat} {F : Int → Option Lay} {S : Int → Option Lk} {N : Int → Int} (h : TP c w p n m1 m2 F S N) (hb : n ≤ 900000) (a : Int) (y : Lay) (hy : F a = some y) (x : Lk) (hx : S a = some x) (e1 e2 : Int) (r : List (Int × Int)) (hn : x.entry = (e1, e2) :: r) (he : In e1) (hN : In (N e1 - 1)) :
    Calls Try.prog 30 #[.pointer (some ⟨p, 0, none⟩), .int .i64 a, .pointer (some ⟨y.q, 0, none⟩)] w fun e w' => e = .returned (.int .i64 (handR x)) ∧ TB c w' p (n + 1) (handS S a x) (handN N x) ∧ Fr (Tm c w) w w' := by
  obtain ⟨x2, hx2, h1, h2, h3, h4, h5, h6⟩ := h.lay hy
  rw [hx] at hx2
  obtain rfl := Option.some.inj hx2
  have HR : Hid (handR x = e1) := by unfold Hid handR; rw [hn]
  have HN : Hid (handN N x = upd N e1 (N e1 - 1)) := by unfold Hid handN; rw [hn]
  rw [hn] at h3
  obtain ⟨g, o, cap, cur, hv, hg, hlc, hcm, hcs, htk⟩ : ∃ g o cap cur, y.e = .slice (some ⟨g, o, none⟩) ((e1, e2) :: r).length cap ∧ w.heap[g]? = some (.cells cur elW.e (0, 0)) ∧ ((e1, e2) :: r).length ≤ cap ∧ cap ≤ maxLen ∧ o + cap * elW.n ≤ cur.size ∧ (cur.toList.drop o).take (((e1, e2) :: r).length * elW.n) = cg elW ((e1, e2) :: r) := by
    rcases h3 with ⟨_, hl⟩ | h3
    · simp at hl
    · exact h3
  rw [hv] at h3
  have k0 := h3.cells 0 (.int .i64 e1) rfl
  have k1 := h3.cells 1 (.int .i64 e2) rfl
  rw [Nat.add_zero] at k0
  obtain ⟨sv, hs1, -, -, hso0, hsb⟩ := cut_high elW_ok elem64 h3 1 (by simp)
  have hso : OwnG elW w sv r := hso0
  clear hso0
  obtain ⟨so, sc, hsv⟩ := hso.form
  subst hsv
  obtain ⟨d0, d1, d2, d3, d4⟩ := cells5 h2
  rw [hv] at d3
  have fa : Fr no w (w.alloc (.cells #[.int .i64 e1, .int .i64 e2] 68)) := (Fr.refl no w).alloc _ _
  have hb0 : (w.alloc (.cells #[.int .i64 e1, .int .i64 e2] 68)).heap[w.heap.size]? = some (.cells #[.int .i64 e1, .int .i64 e2] 68 (0, 0)) := heap_alloc_new w _
  have h2a := fa.heap h2 (fun f => f)
  obtain ⟨-, -, -, d3a, -⟩ := cells5 h2a
  rw [hv] at d3a
  have z3 := thaw h2a 3
  have hqlt := lt_of_heap h2
  have hva := h4.keep fa
  have hsoa := hso.keep fa
  have haw := h.away hy
  have fs := fr_set (w.alloc (.cells #[.int .i64 e1, .int .i64 e2] 68)) y.q 3 (.slice so r.length sc)
  have hW : TP c ((w.alloc (.cells #[.int .i64 e1, .int .i64 e2] 68)).setCell ⟨y.q, 3, none⟩ (.slice so r.length sc)) p n m1 m2 (upd F a (some ⟨y.q, .slice so r.length sc, y.v⟩)) (upd S a (some { x with entry := r })) N ∧ Fr (Tm c w) w ((w.alloc (.cells #[.int .i64 e1, .int .i64 e2] 68)).setCell ⟨y.q, 3, none⟩ (.slice so r.length sc)) := by
    refine h.put hy { x with entry := r } (.slice so r.length sc) y.v (fa.trans fs (fun _ _ f => f.elim) (fun _ _ e => .inl e)) ?_ (hsoa.kept fs (fun b hb e => ?_)) (hva.kept fs (fun b hb e => haw.2.2.2.2 a y b hy (.inr hb) e)) (fun b _ hb => ?_) (fun b _ hb => hb) (fun b hb => ?_)
    · unfold World.setCell
      simp [Array.getElem?_modify, h2a, lkC]
    · rw [hsb] at hb
      exact haw.2.2.2.2 a y b hy (.inl (by rw [hv, ← hb]; rfl)) e
    · rw [hsb] at hb
      rw [hv, ← hb]
      rfl
    · rw [hsb] at hb
      exact (h.apart a a y y hy hy).2.1 b (by rw [hv, ← hb]; rfl)
  have hbW : ((w.alloc (.cells #[.int .i64 e1, .int .i64 e2] 68)).setCell ⟨y.q, 3, none⟩ (.slice so r.length sc)).heap[w.heap.size]? = some (.cells #[.int .i64 e1, .int .i64 e2] 68 (0, 0)) := fs.heap hb0 (by show ¬ (w.heap.size = y.q); omega)
  have HW : Hid _ := hW
  have HBW : Hid _ := hbW
  have hs2 : ∀ w', (Instr.slice 64 (.slice (some ⟨g, o, none⟩) ((e1, e2) :: r).length cap) (some (.int .i64 1)) none none).run Try.prog w' = .ok (.slice so r.length sc) w' := hs1
  have hpos : 0 < ((e1, e2) :: r).length := by simp
  have HS : Hid (handS S a x = upd (upd S a (some { x with entry := r })) a (some { x with owner := e1, count := e2, entry := r })) := by
    show _ = _
    rw [upd_upd]
    exact handS_cons hn
  generalize ((e1, e2) :: r).length = ln at *
  generalize r.length = rn at *
  have hne : ((ln : Int) == 0) = false := by simp; omega
  have hlt : (0 : Int) < (ln : Int) := by omega
  clear h h2 h3 h4 h5 h6 hx hy hn hs1 htk hcs hcm hg hso hsb fa hb0 h2a hva hsoa fs hW hbW haw hv hx2
  go_enter Try.func30, Try.ntmps30
  go_upto_region 8 with (fail)
  rw [← World.setCell_alloc_past _ _ _ _ hqlt]
  revert HW HBW
  generalize ((w.alloc (.cells #[.int .i64 e1, .int .i64 e2] 68)).setCell ⟨y.q, 3, none⟩ (.slice so rn sc)) = W
  intro HW HBW
  generalize w.heap.size = b at *
  clear d0 d1 d2 d3 d3a d4 k0 k1 z3 hs2
  obtain ⟨tW, fW⟩ := HW.out
  obtain ⟨x1, hx1, _, hqW, _⟩ := tW.lay (upd_same F a _)
  rw [upd_same] at hx1
  obtain rfl := Option.some.inj hx1
  simp only [] at hqW
  obtain ⟨d0, d1, -, -, -⟩ := cells5 hqW
  have z0 := thaw hqW 0
  have z1 := thaw hqW 1
  obtain ⟨b0, b1⟩ := cells2 HBW.out
  have HQ : Hid _ := hqW
  clear hqW tW fW hx1
  go_region
  have T2 : Hid (TP c ((W.setCell ⟨y.q, 0, none⟩ (.int .i64 e1)).setCell ⟨y.q, 1, none⟩ (.int .i64 e2)).drew p n m1 m2 (upd F a (some ⟨y.q, .slice so rn sc, y.v⟩)) (handS S a x) N ∧ Fr (Tm c w) w ((W.setCell ⟨y.q, 0, none⟩ (.int .i64 e1)).setCell ⟨y.q, 1, none⟩ (.int .i64 e2)).drew ∧
      ((W.setCell ⟨y.q, 0, none⟩ (.int .i64 e1)).setCell ⟨y.q, 1, none⟩ (.int .i64 e2)).drew.heap[b]? = some (.cells #[.int .i64 e1, .int .i64 e2] 68 (0, 0))) := by
    have fq : Fr (fun k => k = y.q) W ((W.setCell ⟨y.q, 0, none⟩ (.int .i64 e1)).setCell ⟨y.q, 1, none⟩ (.int .i64 e2)) := fr_eq (fr_set _ _ _ _) (fr_set _ _ _ _)
    obtain ⟨t1, f1⟩ := HW.out.1.turn (upd_same F a _) (upd_same S a _) { x with owner := e1, count := e2, entry := r } fq (set01 HQ.out) rfl rfl
    rw [← HS.out] at t1
    exact ⟨t1.keep ((Fr.refl no _).drew), (HW.out.2.tm f1).drew, fq.heap HBW.out (by show ¬ (b = y.q); omega)⟩
  revert T2
  generalize ((W.setCell ⟨y.q, 0, none⟩ (.int .i64 e1)).setCell ⟨y.q, 1, none⟩ (.int .i64 e2)).drew = V
  intro T2
  obtain ⟨b2, -⟩ := cells2 T2.out.2.2
  have LV := leave_any T2.out.1 hb e1 he hN
  clear d0 d1 z0 z1 b0 b1 HQ HW HBW
  go_wp2_with fail
  refine LV.mono ?_
  rintro _ w2 ⟨rfl, t2, f2⟩
  have hbm : b ≠ m2 := fun e => by
    obtain ⟨es, k, hm⟩ := T2.out.1.sm.isMap
    have := T2.out.2.2
    rw [e, hm] at this
    simp at this
  obtain ⟨b3, -⟩ := cells2 (f2.heap T2.out.2.2 hbm)
  have HT : Hid (TB c w2 p (n + 1) (handS S a x) (handN N x) ∧ Fr (Tm c w) w w2) := by
    rw [← HN.out] at t2
    exact ⟨.inr ⟨m1, m2, _, t2⟩, T2.out.2.1.tm (T2.out.1.fm2 f2)⟩
  clear t2 f2 LV b2
  go_wp2_with fail
  go_ret
  exact ⟨by rw [HR.out]; rfl, HT.out⟩

theorem hand_any {c : Nat} {w : World} {p n m1 m2 : Nat} {F : Int → Option Lay} {S : Int → Option Lk} {N : Int → Int} (h : TP c w p n m1 m2 F S N) (hb : n ≤ 900000) (a : Int) (ha : In a) (y : Lay) (hy : F a = some y) (x : Lk) (hx : S a = some x) (he : ∀ e ∈ x.entry, In e.1 ∧ In (N e.1 - 1)) :
    Calls Try.prog 30 #[.pointer (some ⟨p, 0, none⟩), .int .i64 a, .pointer (some ⟨y.q, 0, none⟩)] w fun e w' => e = .returned (.int .i64 (handR x)) ∧ TB c w' p (n + 1) (handS S a x) (handN N x) ∧ Fr (Tm c w) w w' := by
  cases hn : x.entry with
  | nil =>
    refine (hand_nil h a ha y hy x hx hn).mono ?_
    rintro e w' ⟨h1, h2, h3⟩
    exact ⟨h1, h2.mono (Nat.le_succ n), h3⟩
  | cons e r =>
    have := he e (by rw [hn]; exact List.mem_cons_self)
    exact hand_cons h hb a y hy x hx e.1 e.2 r hn this.1 this.2
end Go.Proofs.Ytkkpimpmhnnbjaa
