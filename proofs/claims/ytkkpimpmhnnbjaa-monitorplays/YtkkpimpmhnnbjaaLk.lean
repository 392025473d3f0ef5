/- Lock. -/
import Derived.Test.YtkkpimpmhnnbjaaLo
import Derived.Test.YtkkpimpmhnnbjaaLt
namespace Go.Proofs.Ytkkpimpmhnnbjaa
open Go.ChangeShapes Go.WideShapes Go.ChangeAt Go.RowKit

theorem TB.look1 {c : Nat} {w : World} {p n : Nat} {S : Int → Option Lk} {N : Int → Int} (h : TB c w p n S N) {a : Int} (ha : In a) (hx : S a = none) :
    ∃ o, w.cell? ⟨p, 0, none⟩ = some (.map o) ∧ ∀ w', Fr no w w' → w'.cell? ⟨p, 0, none⟩ = some (.map o) ∧ (Instr.lookup 58 (.map o) (.int .i64 a) false).run Try.prog w' = .ok (.pointer none) w' := by
  rcases h with ⟨h1, h2, rfl, rfl⟩ | ⟨m1, m2, F, h⟩
  · exact ⟨none, (cells2 h2).1, fun w' f => ⟨(cells2 (f.heap h2 (fun e => e))).1, look_nil1 w' ha⟩⟩
  · refine ⟨some m1, (cells2 h.tab).1, fun w' f => ⟨(cells2 (h.keep f).tab).1, ?_⟩⟩
    have := (h.keep f).lm.look ha
    rw [h.out hx] at this
    exact this

theorem results_21 (w : World) (r : Nat) (x0 x1 x2 x3 x4 : Value) (h : w.heap[r]? = some (.cells #[x0, x1, x2, x3, x4] 49 (0, 0))) (tmps : Array Value) (h2 : tmps.getD 4 undef = .pointer (some ⟨r, 0, none⟩)) :
    (results Try.f21 tmps).run Try.prog w = .ok (.agg #[x0, x1, x2, x3, x4]) w := by
  have hl : (loadVar 49 ⟨r, 0, none⟩).run Try.prog w = .ok (.agg #[x0, x1, x2, x3, x4]) w := by
    exact run_loadVar_row (P := Try.prog) w r 49 49 #[x0, x1, x2, x3, x4] (0, 0) _ h Try.underlying49 rfl (by kernel_rfl)
  have h2' : tmps[4]?.getD undef = .pointer (some ⟨r, 0, none⟩) := by simpa using h2
  simp [results, asAddr, h2', hl]

set_option maxRecDepth 100000 in
theorem lock_none {c : Nat} {w : World} {p n : Nat} {S : Int → Option Lk} {N : Int → Int} (h : TB c w p n S N) (a : Int) (ha : In a) (hx : S a = none) :
    Calls Try.prog 21 #[.pointer (some ⟨p, 0, none⟩), .int .i64 a] w fun e w' => e = .returned (.agg #[.int .i64 0, .int .i64 0, .bool false, .slice none 0 0, .slice none 0 0]) ∧ Fr no w w' := by
  have fa : Fr no w (w.alloc (.cells #[.int .i64 0, .int .i64 0, .bool false, .slice none 0 0, .slice none 0 0] 49)) := (Fr.refl no w).alloc _ _
  obtain ⟨o, c0, hl⟩ := h.look1 ha hx
  obtain ⟨c1, h1⟩ := hl _ fa
  have e1 := eq_nil
  have HF : Hid _ := fa
  clear h hl fa
  go_enter Try.func21, Try.ntmps21
  go_wp2_with fail
  refine bodyPost_ret (results_21 _ w.heap.size _ _ _ _ _ (heap_alloc_new w _) _ rfl) rfl ?_
  exact ⟨rfl, HF.out⟩

theorem cells5z {w : World} {q : Nat} {x0 x1 x2 x3 x4 : Value} {t : TypeId} (h : w.heap[q]? = some (.cells #[x0, x1, x2, x3, x4] t (0, 0))) :
    (w.cell? ⟨q, 0, none⟩ = some x0 ∧ w.cell? ⟨q, 1, none⟩ = some x1 ∧ w.cell? ⟨q, 2, none⟩ = some x2 ∧ w.cell? ⟨q, 3, none⟩ = some x3 ∧ w.cell? ⟨q, 4, none⟩ = some x4) ∧
      w.frozen? ⟨q, 0, none⟩ = false ∧ w.frozen? ⟨q, 1, none⟩ = false ∧ w.frozen? ⟨q, 2, none⟩ = false ∧ w.frozen? ⟨q, 3, none⟩ = false ∧ w.frozen? ⟨q, 4, none⟩ = false :=
  ⟨⟨by simp [World.cell?, h], by simp [World.cell?, h], by simp [World.cell?, h], by simp [World.cell?, h], by simp [World.cell?, h]⟩, thaw h 0, thaw h 1, thaw h 2, thaw h 3, thaw h 4⟩

theorem set5 {w : World} {q : Nat} {x0 x1 x2 x3 x4 y0 y1 y2 y3 y4 : Value} {t : TypeId} (h : w.heap[q]? = some (.cells #[x0, x1, x2, x3, x4] t (0, 0))) :
    (((((w.setCell ⟨q, 0, none⟩ y0).setCell ⟨q, 1, none⟩ y1).setCell ⟨q, 2, none⟩ y2).setCell ⟨q, 3, none⟩ y3).setCell ⟨q, 4, none⟩ y4).heap[q]? = some (.cells #[y0, y1, y2, y3, y4] t (0, 0)) := by
  unfold World.setCell
  simp [Array.getElem?_modify, h]

theorem ld3 {w : World} {q i : Nat} {n : Int} (h : w.cell? ⟨q, i, none⟩ = some (.int .i64 n)) : (Instr.loadAt 3 (.pointer (some ⟨q, i, none⟩))).run Try.prog w = .ok (.int .i64 n) w := by simp [go_sem, h]
theorem ld4 {w : World} {q i : Nat} {n : Bool} (h : w.cell? ⟨q, i, none⟩ = some (.bool n)) : (Instr.loadAt 4 (.pointer (some ⟨q, i, none⟩))).run Try.prog w = .ok (.bool n) w := by simp [go_sem, h]
theorem ld64 {w : World} {q i : Nat} {o : Option Addr} {l c : Nat} (h : w.cell? ⟨q, i, none⟩ = some (.slice o l c)) : (Instr.loadAt 64 (.pointer (some ⟨q, i, none⟩))).run Try.prog w = .ok (.slice o l c) w := by simp [go_sem, h]
theorem fr_row (w : World) (b : Nat) (cs : Array Value) : Fr (fun k => k = b) w (w.setRow b cs) :=
  ⟨rfl, rfl, by rw [setRow_size]; exact Nat.le_refl _, fun k hk hs => setRow_other w b k _ (fun e => hs e), fun a _ => frozen_setRow w b _ a⟩
theorem st_row {w : World} {g : Nat} {t ty : TypeId} {old cells : Array Value} (hg : w.heap[g]? = some (.cells old t (0, 0))) (hi : (Try.prog.info? ty).map (·.size) = some cells.size) (ho : old.size = cells.size) (h1 : cells.all (·.oneCell') = true) :
    (Instr.storeAt ty (.pointer (some ⟨g, 0, none⟩)) (.agg cells)).run Try.prog w = .ok () (w.setRow g cells) := by
  simp only [Instr.storeAt, Instr.sureAddr, Sem.run_bind, Sem.run_pure, Result.andThen_ok, run_storeVar_row (P := Try.prog) w g t ty old cells hg hi ho h1]

set_option maxRecDepth 100000 in
set_option maxHeartbeats 2000000 in
theorem lock_some {c : Nat} {w : World} {p n m1 m2 : Nat} {F : Int → Option Lay} {S : Int → Option Lk} {N : Int → Int} (h : TP c w p n m1 m2 F S N) (a : Int) (ha : In a) (x : Lk) (hx : S a = some x) (hl : x.entry.length ≤ 900000) (hl2 : x.wait.length ≤ 900000) :
    Calls Try.prog 21 #[.pointer (some ⟨p, 0, none⟩), .int .i64 a] w fun e w' => ∃ v1 v2, e = .returned (.agg #[.int .i64 x.owner, .int .i64 x.count, .bool x.fat, v1, v2]) ∧ OwnG elI w' v1 (fsts x.entry) ∧ OwnG elI w' v2 (fsts x.wait) ∧ Fr no w w' := by
  obtain ⟨⟨q, ve, vv⟩, hy, _, hq, o1, o2, _⟩ := h.at hx
  simp only [] at hq o1 o2
  have fa : Fr no w (w.alloc (.cells #[.int .i64 0, .int .i64 0, .bool false, .slice none 0 0, .slice none 0 0] 49)) := (Fr.refl no w).alloc _ _
  have hlk := (h.keep fa).lm.look ha
  rw [hy] at hlk
  simp only [Option.map_some, pv] at hlk
  have c0 := (cells2 (h.keep fa).tab).1
  have e1 := eq_ptr
  have hb := heap_alloc_new w (.cells #[.int .i64 0, .int .i64 0, .bool false, .slice none 0 0, .slice none 0 0] 49)
  have HQ : Hid (∀ w', Fr no (w.alloc (.cells #[.int .i64 0, .int .i64 0, .bool false, .slice none 0 0, .slice none 0 0] 49)) w' → w'.heap[q]? = some (.cells (lkC x ve vv) 66 (0, 0)) ∧ OwnG elW w' ve x.entry ∧ OwnG elW w' vv x.wait ∧ w'.heap[w.heap.size]? = some (.cells #[.int .i64 0, .int .i64 0, .bool false, .slice none 0 0, .slice none 0 0] 49 (0, 0))) := fun w' f =>
    ⟨f.heap (fa.heap hq (fun e => e)) (fun e => e), (o1.keep fa).keep f, (o2.keep fa).keep f, f.heap hb (fun e => e)⟩
  have HF : Hid _ := fa
  have HL1 : Hid (x.entry.length ≤ 900000) := hl
  have HL2 : Hid (x.wait.length ≤ 900000) := hl2
  obtain ⟨oe, ce, hve⟩ := o1.form
  obtain ⟨ow, cw, hvw⟩ := o2.form
  clear h hq o1 o2 fa hb hx hy
  subst hve hvw
  generalize hle : x.entry.length = le at HQ
  generalize hlw : x.wait.length = lw at HQ
  clear hle hlw
  go_enter Try.func21, Try.ntmps21
  go_upto_region 4 with (fail)
  rename_i K2 hK2
  revert HQ
  revert HF
  generalize hW : w.alloc (.cells #[.int .i64 0, .int .i64 0, .bool false, .slice none 0 0, .slice none 0 0] 49) = W
  intro HF HQ
  clear c0 hlk
  generalize hbs : w.heap.size = b at *
  have HBS : Hid (w.heap.size = b) := hbs
  clear hbs hW
  have TH : ∀ (w' : World) (v : Value) (l : List (Int × Int)), OwnG elW w' v l → l.length ≤ 900000 → Calls Try.prog 35 #[v] w' fun e w2 => ∃ v', e = .returned v' ∧ ∃ s k t, v' = .slice s k t ∧ OwnG elI w2 (.slice s k t) (fsts l) ∧ Fr no w' w2 := fun w' v l h1 h2 => (threads_any w' v l h1 h2).mono fun e w2 ⟨v', he, o, _, f⟩ => by
    obtain ⟨s, t, rfl⟩ := o.form
    exact ⟨_, he, s, _, t, rfl, o, f⟩
  have TH : ∀ (w' : World) (v : Value) (l : List (Int × Int)), OwnG elW w' v l → l.length ≤ 900000 → Calls Try.prog 35 #[v] w' fun e w2 => ∃ v', e = .returned v' ∧ ∃ s k t, v' = .slice s k t ∧ OwnG elI w2 (.slice s k t) (fsts l) ∧ Fr no w' w2 := fun w' v l h1 h2 => (threads_any w' v l h1 h2).mono fun e w2 ⟨v', he, o, _, f⟩ => by
    obtain ⟨s, t, rfl⟩ := o.form
    exact ⟨_, he, s, _, t, rfl, o, f⟩
  have C1 : ∀ w', Fr no W w' → _ := fun w' f => TH w' (.slice oe le ce) x.entry (HQ.out w' f).2.1 HL1.out
  have C2 : ∀ w', Fr no W w' → _ := fun w' f => TH w' (.slice ow lw cw) x.wait (HQ.out w' f).2.2.1 HL2.out
  have HA0 : Hid (∀ w', Fr no W w' → w'.cell? ⟨q, 0, none⟩ = some (.int .i64 x.owner)) := fun w' f => (cells5 (HQ.out w' f).1).1
  have HA1 : Hid (∀ w', Fr no W w' → w'.cell? ⟨q, 1, none⟩ = some (.int .i64 x.count)) := fun w' f => (cells5 (HQ.out w' f).1).2.1
  have HA2 : Hid (∀ w', Fr no W w' → w'.cell? ⟨q, 2, none⟩ = some (.bool x.fat)) := fun w' f => (cells5 (HQ.out w' f).1).2.2.1
  have HA3 : Hid (∀ w', Fr no W w' → w'.cell? ⟨q, 3, none⟩ = some (.slice oe le ce)) := fun w' f => (cells5 (HQ.out w' f).1).2.2.2.1
  have HA4 : Hid (∀ w', Fr no W w' → w'.cell? ⟨q, 4, none⟩ = some (.slice ow lw cw)) := fun w' f => (cells5 (HQ.out w' f).1).2.2.2.2
  have f0 : Fr no W W.drew := (Fr.refl no W).drew
  clear TH
  refine late_begin (S := fun w' => Fr no W w') (g := 23) (by kernel_rfl) ?_
  refine lateP 0 (.pointer (some ⟨q, 0, none⟩)) rfl (fun _ => ev_move 5 _ rfl (by kernel_rfl)) (fun _ => f0) ?_
  refine lateP 1 (.pointer (some ⟨q, 0, none⟩)) rfl (fun _ => ev_nil 15 ⟨q, 0, none⟩ rfl (by kernel_rfl)) (fun _ => f0) ?_
  refine lateP 2 (.pointer (some ⟨q, 0, none⟩)) rfl (fun _ => ev_field 66 16 0 (.pointer (some ⟨q, 0, none⟩)) _ rfl (by kernel_rfl) (by kernel_rfl)) (fun _ => f0) ?_
  refine lateN (true :: true :: true :: false :: false :: false :: false :: false :: false :: false :: false :: false :: false :: false :: false :: false :: false :: false :: false :: false :: false :: false :: false :: false :: []).toArray ⟨(.pointer (some ⟨p, 0, none⟩) :: .int .i64 a :: undef :: undef :: .pointer (some ⟨b, 0, none⟩) :: .pointer (some ⟨q, 0, none⟩) :: .pointer (some ⟨p, 0, none⟩) :: .pointer (some ⟨p, 0, none⟩) :: .pointer (some ⟨p, 0, none⟩) :: .map (some m1) :: .int .i64 a :: .pointer (some ⟨q, 0, none⟩) :: .pointer (some ⟨q, 0, none⟩) :: .bool false :: undef :: .pointer (some ⟨q, 0, none⟩) :: .pointer (some ⟨q, 0, none⟩) :: .pointer (some ⟨q, 0, none⟩) :: undef :: undef :: undef :: undef :: undef :: undef :: undef :: undef :: undef :: undef :: undef :: undef :: undef :: undef :: undef :: undef :: undef :: undef :: undef :: undef :: []).toArray, []⟩ ?_
  refine lateT 3 (.int .i64 x.owner) rfl (fun wz hz => ev_load 3 17 (.pointer (some ⟨q, 0, none⟩)) (.int .i64 x.owner) rfl (by kernel_rfl) (ld3 (HA0.out wz hz))) f0 ?_
  refine lateN (true :: true :: true :: true :: false :: false :: false :: false :: false :: false :: false :: false :: false :: false :: false :: false :: false :: false :: false :: false :: false :: false :: false :: false :: []).toArray ⟨(.pointer (some ⟨p, 0, none⟩) :: .int .i64 a :: undef :: undef :: .pointer (some ⟨b, 0, none⟩) :: .pointer (some ⟨q, 0, none⟩) :: .pointer (some ⟨p, 0, none⟩) :: .pointer (some ⟨p, 0, none⟩) :: .pointer (some ⟨p, 0, none⟩) :: .map (some m1) :: .int .i64 a :: .pointer (some ⟨q, 0, none⟩) :: .pointer (some ⟨q, 0, none⟩) :: .bool false :: undef :: .pointer (some ⟨q, 0, none⟩) :: .pointer (some ⟨q, 0, none⟩) :: .pointer (some ⟨q, 0, none⟩) :: .int .i64 x.owner :: undef :: undef :: undef :: undef :: undef :: undef :: undef :: undef :: undef :: undef :: undef :: undef :: undef :: undef :: undef :: undef :: undef :: undef :: undef :: []).toArray, []⟩ ?_
  refine lateP 4 (.pointer (some ⟨q, 0, none⟩)) rfl (fun _ => ev_move 5 _ rfl (by kernel_rfl)) (fun _ => f0) ?_
  refine lateP 5 (.pointer (some ⟨q, 0, none⟩)) rfl (fun _ => ev_nil 19 ⟨q, 0, none⟩ rfl (by kernel_rfl)) (fun _ => f0) ?_
  refine lateP 6 (.pointer (some ⟨q, 1, none⟩)) rfl (fun _ => ev_field 66 20 1 (.pointer (some ⟨q, 0, none⟩)) _ rfl (by kernel_rfl) (by kernel_rfl)) (fun _ => f0) ?_
  refine lateN (true :: true :: true :: true :: true :: true :: true :: false :: false :: false :: false :: false :: false :: false :: false :: false :: false :: false :: false :: false :: false :: false :: false :: false :: []).toArray ⟨(.pointer (some ⟨p, 0, none⟩) :: .int .i64 a :: undef :: undef :: .pointer (some ⟨b, 0, none⟩) :: .pointer (some ⟨q, 0, none⟩) :: .pointer (some ⟨p, 0, none⟩) :: .pointer (some ⟨p, 0, none⟩) :: .pointer (some ⟨p, 0, none⟩) :: .map (some m1) :: .int .i64 a :: .pointer (some ⟨q, 0, none⟩) :: .pointer (some ⟨q, 0, none⟩) :: .bool false :: undef :: .pointer (some ⟨q, 0, none⟩) :: .pointer (some ⟨q, 0, none⟩) :: .pointer (some ⟨q, 0, none⟩) :: .int .i64 x.owner :: .pointer (some ⟨q, 0, none⟩) :: .pointer (some ⟨q, 0, none⟩) :: .pointer (some ⟨q, 1, none⟩) :: undef :: undef :: undef :: undef :: undef :: undef :: undef :: undef :: undef :: undef :: undef :: undef :: undef :: undef :: undef :: undef :: []).toArray, []⟩ ?_
  refine lateT 7 (.int .i64 x.count) rfl (fun wz hz => ev_load 3 21 (.pointer (some ⟨q, 1, none⟩)) (.int .i64 x.count) rfl (by kernel_rfl) (ld3 (HA1.out wz hz))) f0 ?_
  refine lateN (true :: true :: true :: true :: true :: true :: true :: true :: false :: false :: false :: false :: false :: false :: false :: false :: false :: false :: false :: false :: false :: false :: false :: false :: []).toArray ⟨(.pointer (some ⟨p, 0, none⟩) :: .int .i64 a :: undef :: undef :: .pointer (some ⟨b, 0, none⟩) :: .pointer (some ⟨q, 0, none⟩) :: .pointer (some ⟨p, 0, none⟩) :: .pointer (some ⟨p, 0, none⟩) :: .pointer (some ⟨p, 0, none⟩) :: .map (some m1) :: .int .i64 a :: .pointer (some ⟨q, 0, none⟩) :: .pointer (some ⟨q, 0, none⟩) :: .bool false :: undef :: .pointer (some ⟨q, 0, none⟩) :: .pointer (some ⟨q, 0, none⟩) :: .pointer (some ⟨q, 0, none⟩) :: .int .i64 x.owner :: .pointer (some ⟨q, 0, none⟩) :: .pointer (some ⟨q, 0, none⟩) :: .pointer (some ⟨q, 1, none⟩) :: .int .i64 x.count :: undef :: undef :: undef :: undef :: undef :: undef :: undef :: undef :: undef :: undef :: undef :: undef :: undef :: undef :: undef :: []).toArray, []⟩ ?_
  refine lateP 8 (.pointer (some ⟨q, 0, none⟩)) rfl (fun _ => ev_move 5 _ rfl (by kernel_rfl)) (fun _ => f0) ?_
  refine lateP 9 (.pointer (some ⟨q, 0, none⟩)) rfl (fun _ => ev_nil 23 ⟨q, 0, none⟩ rfl (by kernel_rfl)) (fun _ => f0) ?_
  refine lateP 10 (.pointer (some ⟨q, 2, none⟩)) rfl (fun _ => ev_field 66 24 2 (.pointer (some ⟨q, 0, none⟩)) _ rfl (by kernel_rfl) (by kernel_rfl)) (fun _ => f0) ?_
  refine lateN (true :: true :: true :: true :: true :: true :: true :: true :: true :: true :: true :: false :: false :: false :: false :: false :: false :: false :: false :: false :: false :: false :: false :: false :: []).toArray ⟨(.pointer (some ⟨p, 0, none⟩) :: .int .i64 a :: undef :: undef :: .pointer (some ⟨b, 0, none⟩) :: .pointer (some ⟨q, 0, none⟩) :: .pointer (some ⟨p, 0, none⟩) :: .pointer (some ⟨p, 0, none⟩) :: .pointer (some ⟨p, 0, none⟩) :: .map (some m1) :: .int .i64 a :: .pointer (some ⟨q, 0, none⟩) :: .pointer (some ⟨q, 0, none⟩) :: .bool false :: undef :: .pointer (some ⟨q, 0, none⟩) :: .pointer (some ⟨q, 0, none⟩) :: .pointer (some ⟨q, 0, none⟩) :: .int .i64 x.owner :: .pointer (some ⟨q, 0, none⟩) :: .pointer (some ⟨q, 0, none⟩) :: .pointer (some ⟨q, 1, none⟩) :: .int .i64 x.count :: .pointer (some ⟨q, 0, none⟩) :: .pointer (some ⟨q, 0, none⟩) :: .pointer (some ⟨q, 2, none⟩) :: undef :: undef :: undef :: undef :: undef :: undef :: undef :: undef :: undef :: undef :: undef :: undef :: []).toArray, []⟩ ?_
  refine lateT 11 (.bool x.fat) rfl (fun wz hz => ev_load 4 25 (.pointer (some ⟨q, 2, none⟩)) (.bool x.fat) rfl (by kernel_rfl) (ld4 (HA2.out wz hz))) f0 ?_
  refine lateN (true :: true :: true :: true :: true :: true :: true :: true :: true :: true :: true :: true :: false :: false :: false :: false :: false :: false :: false :: false :: false :: false :: false :: false :: []).toArray ⟨(.pointer (some ⟨p, 0, none⟩) :: .int .i64 a :: undef :: undef :: .pointer (some ⟨b, 0, none⟩) :: .pointer (some ⟨q, 0, none⟩) :: .pointer (some ⟨p, 0, none⟩) :: .pointer (some ⟨p, 0, none⟩) :: .pointer (some ⟨p, 0, none⟩) :: .map (some m1) :: .int .i64 a :: .pointer (some ⟨q, 0, none⟩) :: .pointer (some ⟨q, 0, none⟩) :: .bool false :: undef :: .pointer (some ⟨q, 0, none⟩) :: .pointer (some ⟨q, 0, none⟩) :: .pointer (some ⟨q, 0, none⟩) :: .int .i64 x.owner :: .pointer (some ⟨q, 0, none⟩) :: .pointer (some ⟨q, 0, none⟩) :: .pointer (some ⟨q, 1, none⟩) :: .int .i64 x.count :: .pointer (some ⟨q, 0, none⟩) :: .pointer (some ⟨q, 0, none⟩) :: .pointer (some ⟨q, 2, none⟩) :: .bool x.fat :: undef :: undef :: undef :: undef :: undef :: undef :: undef :: undef :: undef :: undef :: undef :: []).toArray, []⟩ ?_
  refine lateP 12 (.pointer (some ⟨q, 0, none⟩)) rfl (fun _ => ev_move 5 _ rfl (by kernel_rfl)) (fun _ => f0) ?_
  refine lateP 13 (.pointer (some ⟨q, 0, none⟩)) rfl (fun _ => ev_nil 27 ⟨q, 0, none⟩ rfl (by kernel_rfl)) (fun _ => f0) ?_
  refine lateP 14 (.pointer (some ⟨q, 3, none⟩)) rfl (fun _ => ev_field 66 28 3 (.pointer (some ⟨q, 0, none⟩)) _ rfl (by kernel_rfl) (by kernel_rfl)) (fun _ => f0) ?_
  refine lateN (true :: true :: true :: true :: true :: true :: true :: true :: true :: true :: true :: true :: true :: true :: true :: false :: false :: false :: false :: false :: false :: false :: false :: false :: []).toArray ⟨(.pointer (some ⟨p, 0, none⟩) :: .int .i64 a :: undef :: undef :: .pointer (some ⟨b, 0, none⟩) :: .pointer (some ⟨q, 0, none⟩) :: .pointer (some ⟨p, 0, none⟩) :: .pointer (some ⟨p, 0, none⟩) :: .pointer (some ⟨p, 0, none⟩) :: .map (some m1) :: .int .i64 a :: .pointer (some ⟨q, 0, none⟩) :: .pointer (some ⟨q, 0, none⟩) :: .bool false :: undef :: .pointer (some ⟨q, 0, none⟩) :: .pointer (some ⟨q, 0, none⟩) :: .pointer (some ⟨q, 0, none⟩) :: .int .i64 x.owner :: .pointer (some ⟨q, 0, none⟩) :: .pointer (some ⟨q, 0, none⟩) :: .pointer (some ⟨q, 1, none⟩) :: .int .i64 x.count :: .pointer (some ⟨q, 0, none⟩) :: .pointer (some ⟨q, 0, none⟩) :: .pointer (some ⟨q, 2, none⟩) :: .bool x.fat :: .pointer (some ⟨q, 0, none⟩) :: .pointer (some ⟨q, 0, none⟩) :: .pointer (some ⟨q, 3, none⟩) :: undef :: undef :: undef :: undef :: undef :: undef :: undef :: undef :: []).toArray, []⟩ ?_
  refine lateT 15 (.slice oe le ce) rfl (fun wz hz => ev_load 64 29 (.pointer (some ⟨q, 3, none⟩)) (.slice oe le ce) rfl (by kernel_rfl) (ld64 (HA3.out wz hz))) f0 ?_
  refine lateN (true :: true :: true :: true :: true :: true :: true :: true :: true :: true :: true :: true :: true :: true :: true :: true :: false :: false :: false :: false :: false :: false :: false :: false :: []).toArray ⟨(.pointer (some ⟨p, 0, none⟩) :: .int .i64 a :: undef :: undef :: .pointer (some ⟨b, 0, none⟩) :: .pointer (some ⟨q, 0, none⟩) :: .pointer (some ⟨p, 0, none⟩) :: .pointer (some ⟨p, 0, none⟩) :: .pointer (some ⟨p, 0, none⟩) :: .map (some m1) :: .int .i64 a :: .pointer (some ⟨q, 0, none⟩) :: .pointer (some ⟨q, 0, none⟩) :: .bool false :: undef :: .pointer (some ⟨q, 0, none⟩) :: .pointer (some ⟨q, 0, none⟩) :: .pointer (some ⟨q, 0, none⟩) :: .int .i64 x.owner :: .pointer (some ⟨q, 0, none⟩) :: .pointer (some ⟨q, 0, none⟩) :: .pointer (some ⟨q, 1, none⟩) :: .int .i64 x.count :: .pointer (some ⟨q, 0, none⟩) :: .pointer (some ⟨q, 0, none⟩) :: .pointer (some ⟨q, 2, none⟩) :: .bool x.fat :: .pointer (some ⟨q, 0, none⟩) :: .pointer (some ⟨q, 0, none⟩) :: .pointer (some ⟨q, 3, none⟩) :: .slice oe le ce :: undef :: undef :: undef :: undef :: undef :: undef :: undef :: []).toArray, []⟩ ?_
  refine lateP 17 (.pointer (some ⟨q, 0, none⟩)) rfl (fun _ => ev_move 5 _ rfl (by kernel_rfl)) (fun _ => f0) ?_
  refine lateP 18 (.pointer (some ⟨q, 0, none⟩)) rfl (fun _ => ev_nil 32 ⟨q, 0, none⟩ rfl (by kernel_rfl)) (fun _ => f0) ?_
  refine lateP 19 (.pointer (some ⟨q, 4, none⟩)) rfl (fun _ => ev_field 66 33 4 (.pointer (some ⟨q, 0, none⟩)) _ rfl (by kernel_rfl) (by kernel_rfl)) (fun _ => f0) ?_
  refine lateN (true :: true :: true :: true :: true :: true :: true :: true :: true :: true :: true :: true :: true :: true :: true :: true :: false :: true :: true :: true :: false :: false :: false :: false :: []).toArray ⟨(.pointer (some ⟨p, 0, none⟩) :: .int .i64 a :: undef :: undef :: .pointer (some ⟨b, 0, none⟩) :: .pointer (some ⟨q, 0, none⟩) :: .pointer (some ⟨p, 0, none⟩) :: .pointer (some ⟨p, 0, none⟩) :: .pointer (some ⟨p, 0, none⟩) :: .map (some m1) :: .int .i64 a :: .pointer (some ⟨q, 0, none⟩) :: .pointer (some ⟨q, 0, none⟩) :: .bool false :: undef :: .pointer (some ⟨q, 0, none⟩) :: .pointer (some ⟨q, 0, none⟩) :: .pointer (some ⟨q, 0, none⟩) :: .int .i64 x.owner :: .pointer (some ⟨q, 0, none⟩) :: .pointer (some ⟨q, 0, none⟩) :: .pointer (some ⟨q, 1, none⟩) :: .int .i64 x.count :: .pointer (some ⟨q, 0, none⟩) :: .pointer (some ⟨q, 0, none⟩) :: .pointer (some ⟨q, 2, none⟩) :: .bool x.fat :: .pointer (some ⟨q, 0, none⟩) :: .pointer (some ⟨q, 0, none⟩) :: .pointer (some ⟨q, 3, none⟩) :: .slice oe le ce :: undef :: .pointer (some ⟨q, 0, none⟩) :: .pointer (some ⟨q, 0, none⟩) :: .pointer (some ⟨q, 4, none⟩) :: undef :: undef :: undef :: []).toArray, []⟩ ?_
  refine lateT 20 (.slice ow lw cw) rfl (fun wz hz => ev_load 64 34 (.pointer (some ⟨q, 4, none⟩)) (.slice ow lw cw) rfl (by kernel_rfl) (ld64 (HA4.out wz hz))) f0 ?_
  refine lateN (true :: true :: true :: true :: true :: true :: true :: true :: true :: true :: true :: true :: true :: true :: true :: true :: false :: true :: true :: true :: true :: false :: false :: false :: []).toArray ⟨(.pointer (some ⟨p, 0, none⟩) :: .int .i64 a :: undef :: undef :: .pointer (some ⟨b, 0, none⟩) :: .pointer (some ⟨q, 0, none⟩) :: .pointer (some ⟨p, 0, none⟩) :: .pointer (some ⟨p, 0, none⟩) :: .pointer (some ⟨p, 0, none⟩) :: .map (some m1) :: .int .i64 a :: .pointer (some ⟨q, 0, none⟩) :: .pointer (some ⟨q, 0, none⟩) :: .bool false :: undef :: .pointer (some ⟨q, 0, none⟩) :: .pointer (some ⟨q, 0, none⟩) :: .pointer (some ⟨q, 0, none⟩) :: .int .i64 x.owner :: .pointer (some ⟨q, 0, none⟩) :: .pointer (some ⟨q, 0, none⟩) :: .pointer (some ⟨q, 1, none⟩) :: .int .i64 x.count :: .pointer (some ⟨q, 0, none⟩) :: .pointer (some ⟨q, 0, none⟩) :: .pointer (some ⟨q, 2, none⟩) :: .bool x.fat :: .pointer (some ⟨q, 0, none⟩) :: .pointer (some ⟨q, 0, none⟩) :: .pointer (some ⟨q, 3, none⟩) :: .slice oe le ce :: undef :: .pointer (some ⟨q, 0, none⟩) :: .pointer (some ⟨q, 0, none⟩) :: .pointer (some ⟨q, 4, none⟩) :: .slice ow lw cw :: undef :: undef :: []).toArray, []⟩ ?_
  refine late_all [16] (by kernel_rfl) (by simp) (fun jj hjj => ?_)
  simp only [List.mem_singleton] at hjj
  subst hjj
  refine late_call rfl (by kernel_rfl) (vals := #[.slice oe le ce]) (f := 35) (by kernel_rfl) (C1 _ f0) ?_
  rintro _ w1 ⟨s1, k1, t1, rfl, o1, g1⟩
  have f1 := f0.and g1
  refine ⟨fun _ => f1, ?_⟩
  refine lateN (true :: true :: true :: true :: true :: true :: true :: true :: true :: true :: true :: true :: true :: true :: true :: true :: true :: true :: true :: true :: true :: false :: false :: false :: []).toArray ⟨(.pointer (some ⟨p, 0, none⟩) :: .int .i64 a :: undef :: undef :: .pointer (some ⟨b, 0, none⟩) :: .pointer (some ⟨q, 0, none⟩) :: .pointer (some ⟨p, 0, none⟩) :: .pointer (some ⟨p, 0, none⟩) :: .pointer (some ⟨p, 0, none⟩) :: .map (some m1) :: .int .i64 a :: .pointer (some ⟨q, 0, none⟩) :: .pointer (some ⟨q, 0, none⟩) :: .bool false :: undef :: .pointer (some ⟨q, 0, none⟩) :: .pointer (some ⟨q, 0, none⟩) :: .pointer (some ⟨q, 0, none⟩) :: .int .i64 x.owner :: .pointer (some ⟨q, 0, none⟩) :: .pointer (some ⟨q, 0, none⟩) :: .pointer (some ⟨q, 1, none⟩) :: .int .i64 x.count :: .pointer (some ⟨q, 0, none⟩) :: .pointer (some ⟨q, 0, none⟩) :: .pointer (some ⟨q, 2, none⟩) :: .bool x.fat :: .pointer (some ⟨q, 0, none⟩) :: .pointer (some ⟨q, 0, none⟩) :: .pointer (some ⟨q, 3, none⟩) :: .slice oe le ce :: .slice s1 k1 t1 :: .pointer (some ⟨q, 0, none⟩) :: .pointer (some ⟨q, 0, none⟩) :: .pointer (some ⟨q, 4, none⟩) :: .slice ow lw cw :: undef :: undef :: []).toArray, []⟩ ?_
  refine late_all [21] (by kernel_rfl) (by simp) (fun jj hjj => ?_)
  simp only [List.mem_singleton] at hjj
  subst hjj
  refine late_call rfl (by kernel_rfl) (vals := #[.slice ow lw cw]) (f := 35) (by kernel_rfl) (C2 _ f1) ?_
  rintro _ w2 ⟨s2, k2, t2, rfl, o2, g2⟩
  have f2 := f1.and g2
  refine ⟨fun _ => f2, ?_⟩
  refine lateN (true :: true :: true :: true :: true :: true :: true :: true :: true :: true :: true :: true :: true :: true :: true :: true :: true :: true :: true :: true :: true :: true :: false :: false :: []).toArray ⟨(.pointer (some ⟨p, 0, none⟩) :: .int .i64 a :: undef :: undef :: .pointer (some ⟨b, 0, none⟩) :: .pointer (some ⟨q, 0, none⟩) :: .pointer (some ⟨p, 0, none⟩) :: .pointer (some ⟨p, 0, none⟩) :: .pointer (some ⟨p, 0, none⟩) :: .map (some m1) :: .int .i64 a :: .pointer (some ⟨q, 0, none⟩) :: .pointer (some ⟨q, 0, none⟩) :: .bool false :: undef :: .pointer (some ⟨q, 0, none⟩) :: .pointer (some ⟨q, 0, none⟩) :: .pointer (some ⟨q, 0, none⟩) :: .int .i64 x.owner :: .pointer (some ⟨q, 0, none⟩) :: .pointer (some ⟨q, 0, none⟩) :: .pointer (some ⟨q, 1, none⟩) :: .int .i64 x.count :: .pointer (some ⟨q, 0, none⟩) :: .pointer (some ⟨q, 0, none⟩) :: .pointer (some ⟨q, 2, none⟩) :: .bool x.fat :: .pointer (some ⟨q, 0, none⟩) :: .pointer (some ⟨q, 0, none⟩) :: .pointer (some ⟨q, 3, none⟩) :: .slice oe le ce :: .slice s1 k1 t1 :: .pointer (some ⟨q, 0, none⟩) :: .pointer (some ⟨q, 0, none⟩) :: .pointer (some ⟨q, 4, none⟩) :: .slice ow lw cw :: .slice s2 k2 t2 :: undef :: []).toArray, []⟩ ?_
  refine lateP 22 (.agg #[.int .i64 x.owner, .int .i64 x.count, .bool x.fat, .slice s1 k1 t1, .slice s2 k2 t2]) rfl (fun _ => by kernel_rfl) (fun _ => f2) ?_
  refine lateN (true :: true :: true :: true :: true :: true :: true :: true :: true :: true :: true :: true :: true :: true :: true :: true :: true :: true :: true :: true :: true :: true :: true :: false :: []).toArray ⟨(.pointer (some ⟨p, 0, none⟩) :: .int .i64 a :: undef :: undef :: .pointer (some ⟨b, 0, none⟩) :: .pointer (some ⟨q, 0, none⟩) :: .pointer (some ⟨p, 0, none⟩) :: .pointer (some ⟨p, 0, none⟩) :: .pointer (some ⟨p, 0, none⟩) :: .map (some m1) :: .int .i64 a :: .pointer (some ⟨q, 0, none⟩) :: .pointer (some ⟨q, 0, none⟩) :: .bool false :: undef :: .pointer (some ⟨q, 0, none⟩) :: .pointer (some ⟨q, 0, none⟩) :: .pointer (some ⟨q, 0, none⟩) :: .int .i64 x.owner :: .pointer (some ⟨q, 0, none⟩) :: .pointer (some ⟨q, 0, none⟩) :: .pointer (some ⟨q, 1, none⟩) :: .int .i64 x.count :: .pointer (some ⟨q, 0, none⟩) :: .pointer (some ⟨q, 0, none⟩) :: .pointer (some ⟨q, 2, none⟩) :: .bool x.fat :: .pointer (some ⟨q, 0, none⟩) :: .pointer (some ⟨q, 0, none⟩) :: .pointer (some ⟨q, 3, none⟩) :: .slice oe le ce :: .slice s1 k1 t1 :: .pointer (some ⟨q, 0, none⟩) :: .pointer (some ⟨q, 0, none⟩) :: .pointer (some ⟨q, 4, none⟩) :: .slice ow lw cw :: .slice s2 k2 t2 :: .agg #[.int .i64 x.owner, .int .i64 x.count, .bool x.fat, .slice s1 k1 t1, .slice s2 k2 t2] :: []).toArray, []⟩ ?_
  refine late_all [23] (by kernel_rfl) (by simp) (fun jj hjj => ?_)
  simp only [List.mem_singleton] at hjj
  subst hjj
  have hbz := (HQ.out _ f2).2.2.2
  refine late_skip rfl (by kernel_rfl) (ev_store 49 4 37 (.pointer (some ⟨b, 0, none⟩)) (.agg #[.int .i64 x.owner, .int .i64 x.count, .bool x.fat, .slice s1 k1 t1, .slice s2 k2 t2]) (w2.setRow b #[.int .i64 x.owner, .int .i64 x.count, .bool x.fat, .slice s1 k1 t1, .slice s2 k2 t2]) rfl (by kernel_rfl) (by kernel_rfl) (st_row hbz (by kernel_rfl) rfl (by kernel_rfl))) ?_
  refine ⟨fun h => by simp at h, ?_⟩
  refine late_done (by kernel_rfl) ?_
  refine hK2 _ _ ?_
  refine wp_ret ?_
  show bodyPost Try.prog Try.f21 _ Exit.ret _ _
  refine bodyPost_ret (results_21 _ b _ _ _ _ _ (setRow_heap _ b _ _ 49 _ hbz) _ (by kernel_rfl)) (by kernel_rfl) ?_
  have fr := fr_row w2 b #[.int .i64 x.owner, .int .i64 x.count, .bool x.fat, .slice s1 k1 t1, .slice s2 k2 t2]
  have nb : ∀ v l, OwnG elI w2 v l → ∀ k, v.ownBlock = some k → ¬ (k = b) := fun v l o k hk e => by
    obtain ⟨cur, hc⟩ := o.tag hk
    rw [e, hbz] at hc
    simp [elI] at hc
  exact ⟨_, _, rfl, (o1.keep g2).kept fr (nb _ _ (o1.keep g2)), (o2).kept fr (nb _ _ (o2)), (HF.out.and f2).new fr (fun i hi e => by have := HBS.out; omega)⟩

/-- Lock. -/
theorem lock_any {c : Nat} {w : World} {p n : Nat} {S : Int → Option Lk} {N : Int → Int} (h : TB c w p n S N) (hB : Bd n S N) (hn : n ≤ 800000) (a : Int) (ha : In a) :
    Calls Try.prog 21 #[.pointer (some ⟨p, 0, none⟩), .int .i64 a] w fun e w' => ∃ v1 v2, e = .returned (.agg #[.int .i64 ((S a).getD lk0).owner, .int .i64 ((S a).getD lk0).count, .bool ((S a).getD lk0).fat, v1, v2]) ∧ OwnG elI w' v1 (fsts ((S a).getD lk0).entry) ∧ OwnG elI w' v2 (fsts ((S a).getD lk0).wait) ∧ Fr no w w' := by
  cases hx : S a with
  | none =>
    refine (lock_none h a ha hx).mono ?_
    rintro e w' ⟨rfl, f⟩
    exact ⟨_, _, rfl, OwnG.nil _ _, OwnG.nil _ _, f⟩
  | some x =>
    rcases h with ⟨h1, h2, rfl, rfl⟩ | ⟨m1, m2, F, h⟩
    · simp at hx
    · have hl := (hB.lk a x hx).len
      exact lock_some h a ha x hx (by omega) (by omega)

theorem idle_any {c : Nat} {w : World} {p n m1 m2 : Nat} {F : Int → Option Lay} {S : Int → Option Lk} {N : Int → Int} (h : TP c w p n m1 m2 F S N) {a : Int} {y : Lay} (hy : F a = some y) {x : Lk} (hx : S a = some x) :
    Calls Try.prog 33 #[.pointer (some ⟨y.q, 0, none⟩)] w fun e w' => e = .returned (.bool (decide (x.owner = 0 ∧ x.wait = []))) ∧ w' = w := by
  obtain ⟨y', hy', _, hq, _, o2, _⟩ := h.at hx
  rw [hy] at hy'
  obtain rfl := Option.some.inj hy'
  obtain ⟨d0, -, -, -, d4⟩ := cells5 hq
  obtain ⟨ow, cw, hvw⟩ := o2.form
  rw [hvw] at d4
  by_cases h0 : x.owner = 0
  · by_cases h1 : x.wait = []
    · have HI : Hid (decide (x.owner = 0 ∧ x.wait = []) = true) := decide_eq_true ⟨h0, h1⟩
      rw [h0] at d0
      rw [h1] at d4
      simp only [List.length_nil] at d4
      clear h hy hx hq o2 hvw hy' h0 h1
      go_enter Try.func33, Try.ntmps33
      go_wp2_with fail
      go_ret
      exact ⟨by rw [HI.out]; rfl, rfl⟩
    · have HI : Hid (decide (x.owner = 0 ∧ x.wait = []) = false) := decide_eq_false (fun e => h1 e.2)
      have hne : ((x.wait.length : Int) == 0) = false := by
        have : x.wait.length ≠ 0 := fun e => h1 (List.eq_nil_of_length_eq_zero e)
        simp only [beq_eq_false_iff_ne]
        omega
      rw [h0] at d0
      generalize x.wait.length = lw at *
      clear h hy hx hq o2 hvw hy' h0 h1
      go_enter Try.func33, Try.ntmps33
      go_wp2_with fail
      go_ret
      exact ⟨by rw [HI.out]; rfl, rfl⟩
  · have HI : Hid (decide (x.owner = 0 ∧ x.wait = []) = false) := decide_eq_false (fun e => h0 e.1)
    have g0 : (x.owner == 0) = false := by simpa using h0
    generalize x.owner = o at *
    clear h hy hx hq o2 hvw hy' h0
    go_enter Try.func33, Try.ntmps33
    go_wp2_with fail
    go_ret
    exact ⟨by rw [HI.out]; rfl, rfl⟩

def forgetP (a : Int) (S : Int → Option Lk) (N : Int → Int) : Ans Int :=
  match S a with
  | none => ⟨0, 0, S, N⟩
  | some x => if x.owner = 0 ∧ x.wait = [] then ⟨0, 0, upd S a none, N⟩ else ⟨0, 130, S, N⟩

set_option maxRecDepth 100000 in
theorem forget_any {c : Nat} {w : World} {p n : Nat} {S : Int → Option Lk} {N : Int → Int} (h : TB c w p n S N) (a : Int) (ha : In a) :
    Calls Try.prog 18 #[.pointer (some ⟨p, 0, none⟩), .int .i64 a] w fun e w' => e = .returned (.int .i64 (forgetP a S N).err) ∧ TB c w' p (n + 2) (forgetP a S N).S (forgetP a S N).N ∧ Fr (Tm c w) w w' := by
  have e1 := ne_nil
  have e2 := ne_ptr
  unfold forgetP
  rcases h with ⟨h1, h2, rfl, rfl⟩ | ⟨m1, m2, F, h⟩
  · have c0 := (cells2 h2).1
    have hl := look_nil1 w ha
    have hd := fun ty => drop_nil1 w ha ty
    have HT : Hid (TB c w p (n + 2) (fun _ => none) (fun _ => 0)) := .inl ⟨h1, h2, rfl, rfl⟩
    clear h1 h2
    simp only []
    go_enter Try.func18, Try.ntmps18
    go_wp2_with fail
    go_ret
    exact ⟨rfl, HT.out, Fr.refl _ _⟩
  · have c0 := (cells2 h.tab).1
    have hl := h.lm.look ha
    obtain ⟨w1, hdel, s1, f1⟩ := h.lm.drop ha 0
    obtain ⟨t1, g1⟩ := h.del f1 s1
    cases hx : S a with
    | none =>
      rw [h.out hx] at hl
      simp only [Option.map_none, pv] at hl ⊢
      have HT : Hid (TB c w1 p (n + 2) S N ∧ Fr (Tm c w) w w1) := by
        have e : upd S a none = S := by rw [← hx]; exact upd_self S a
        rw [e] at t1
        exact ⟨.inr ⟨m1, m2, _, t1.mono (by omega)⟩, g1⟩
      clear h hx s1 f1 t1 g1
      go_enter Try.func18, Try.ntmps18
      go_wp2_with fail
      go_ret
      exact ⟨rfl, HT.out⟩
    | some x =>
      obtain ⟨y, hy, _⟩ := h.at hx
      have ID := idle_any h hy hx
      rw [hy] at hl
      simp only [Option.map_some, pv] at hl ⊢
      by_cases hi : x.owner = 0 ∧ x.wait = []
      · rw [if_pos hi]
        rw [decide_eq_true hi] at ID
        have HT : Hid (TB c w1 p (n + 2) (upd S a none) N ∧ Fr (Tm c w) w w1) := ⟨.inr ⟨m1, m2, _, t1.mono (by omega)⟩, g1⟩
        clear h hx s1 f1 t1 g1 hi hy
        go_enter Try.func18, Try.ntmps18
        go_wp2_with (first | (go_at_call 33; refine ID.mono ?_; rintro _ w2 ⟨rfl, rfl⟩) | go_in)
        go_ret
        exact ⟨rfl, HT.out⟩
      · rw [if_neg hi]
        rw [decide_eq_false hi] at ID
        have HT : Hid (TB c w p (n + 2) S N) := .inr ⟨m1, m2, F, h.mono (by omega)⟩
        clear h hx s1 f1 t1 g1 hi hy hdel
        go_enter Try.func18, Try.ntmps18
        go_wp2_with (first | (go_at_call 33; refine ID.mono ?_; rintro _ w2 ⟨rfl, rfl⟩) | go_in)
        go_ret
        exact ⟨rfl, HT.out, Fr.refl _ _⟩

theorem forget_bd {n : Nat} {S : Int → Option Lk} {N : Int → Int} (hB : Bd n S N) (a : Int) : Bd (n + 2) (forgetP a S N).S (forgetP a S N).N := by
  have hB2 := hB.mono (n' := n + 2) (by omega)
  unfold forgetP
  cases hx : S a with
  | none => exact hB2
  | some x =>
    simp only []
    split
    · exact hB2.put a (fun x hx => by simp at hx)
    · exact hB2
end Go.Proofs.Ytkkpimpmhnnbjaa
