/- The small class of the laws. -/
import Derived.Test.YthncdbobjeeeaaaGreatDoorGo
import Derived.Test.YthncdbobjeeeaaaGreatDoorGp
import Derived.Deep.RegionHeld3
namespace Go.Proofs.YthncdbobjeeeaaaGreatDoor
open Go.ChangeShapes Go.WideShapes Go.ChangeAt Go.RowKit

theorem results_12 (w : World) (r : Nat) (x0 x1 x2 x3 x4 : Value) (h : w.heap[r]? = some (.cells #[x0, x1, x2, x3, x4] 28 (0, 0))) (tmps : Array Value) (h2 : tmps.getD 0 undef = .pointer (some ⟨r, 0, none⟩)) :
    (results Tryz.f12 tmps).run Tryz.prog w = .ok (.agg #[x0, x1, x2, x3, x4]) w := by
  have hl : (loadVar 28 ⟨r, 0, none⟩).run Tryz.prog w = .ok (.agg #[x0, x1, x2, x3, x4]) w := run_loadVar_row (P := Tryz.prog) w r 28 28 #[x0, x1, x2, x3, x4] (0, 0) _ h Tryz.underlying28 rfl (by kernel_rfl)
  have h2' : tmps[0]?.getD undef = .pointer (some ⟨r, 0, none⟩) := by simpa using h2
  simp [results, asAddr, h2', hl]

set_option maxRecDepth 100000 in
set_option maxHeartbeats 1000000 in
theorem small_any (w : World) : Calls Tryz.prog 12 #[] w fun e w' => ∃ q r, e = .returned (.agg #[.string ⟨#[77, 97, 105, 110]⟩, .string ⟨#[]⟩, .slice none 0 0, .slice none 0 0, .slice (some ⟨r, 0, none⟩) 1 1]) ∧ w.heap.size ≤ q ∧ w.heap.size ≤ r ∧ q ≠ r ∧
    w'.heap[q]? = some (.cells #[.int .i64 33, .int .i64 0] 57 (0, 0)) ∧ w'.heap[r]? = some (.cells #[.string ⟨#[109, 97, 105, 110]⟩, .slice none 0 0, .int .i64 0, .string ⟨#[]⟩, .int .i64 1, .int .i64 0, .slice (some ⟨q, 0, none⟩) 1 1, .slice none 0 0] 53 (0, 0)) ∧ Fr no w w' := by
  have s0 := size_alloc w (.cells #[.string ⟨#[]⟩, .string ⟨#[]⟩, .slice none 0 0, .slice none 0 0, .slice none 0 0] 28)
  have b0 := heap_alloc_new w (.cells #[.string ⟨#[]⟩, .string ⟨#[]⟩, .slice none 0 0, .slice none 0 0, .slice none 0 0] 28)
  have f0 : Fr no w (w.alloc (.cells #[.string ⟨#[]⟩, .string ⟨#[]⟩, .slice none 0 0, .slice none 0 0, .slice none 0 0] 28)) := (Fr.refl no w).alloc _ _
  generalize hW0 : w.alloc (.cells #[.string ⟨#[]⟩, .string ⟨#[]⟩, .slice none 0 0, .slice none 0 0, .slice none 0 0] 28) = W0 at *
  have s1 := size_alloc W0 (.cells #[.int .i64 33, .int .i64 0] 57)
  have b1 := heap_alloc_new W0 (.cells #[.int .i64 33, .int .i64 0] 57)
  have f1 : Fr no W0 (W0.alloc (.cells #[.int .i64 33, .int .i64 0] 57)) := (Fr.refl no W0).alloc _ _
  generalize hW1 : W0.alloc (.cells #[.int .i64 33, .int .i64 0] 57) = W1 at *
  rw [s0] at s1 b1
  have b2 := heap_alloc_new W1 (.cells #[.string ⟨#[109, 97, 105, 110]⟩, .slice none 0 0, .int .i64 0, .string ⟨#[]⟩, .int .i64 1, .int .i64 0, .slice (some ⟨w.heap.size + 1, 0, none⟩) 1 1, .slice none 0 0] 53)
  have f2 : Fr no W1 (W1.alloc (.cells #[.string ⟨#[109, 97, 105, 110]⟩, .slice none 0 0, .int .i64 0, .string ⟨#[]⟩, .int .i64 1, .int .i64 0, .slice (some ⟨w.heap.size + 1, 0, none⟩) 1 1, .slice none 0 0] 53)) := (Fr.refl no W1).alloc _ _
  generalize hW2 : W1.alloc (.cells #[.string ⟨#[109, 97, 105, 110]⟩, .slice none 0 0, .int .i64 0, .string ⟨#[]⟩, .int .i64 1, .int .i64 0, .slice (some ⟨w.heap.size + 1, 0, none⟩) 1 1, .slice none 0 0] 53) = W2 at *
  rw [s1] at b2
  have b02 := f2.heap (f1.heap b0 (fun f => f)) (fun f => f)
  have b12 := f2.heap b1 (fun f => f)
  obtain ⟨⟨c0, c1, c2, c3, c4⟩, z0, z1, z2, z3, z4⟩ := cells5z b02
  have HF : Hid (Fr no w W2) := (f0.new f1 (fun _ _ f => f)).new f2 (fun _ _ f => f)
  clear f0 f1 f2 b0 b1
  go_enter Tryz.func12, Tryz.ntmps12
  go_wp2_with fail
  have FF := fr_chain5 W2 w.heap.size (.string ⟨#[77, 97, 105, 110]⟩) (.string ⟨#[]⟩) (.slice none 0 0) (.slice none 0 0) (.slice (some ⟨w.heap.size + 1 + 1, 0, none⟩) 1 1)
  have hZ : (World.setCell (World.setCell (World.setCell (World.setCell (World.setCell W2 ⟨w.heap.size, 0, none⟩ (.string ⟨#[77, 97, 105, 110]⟩)) ⟨w.heap.size, 1, none⟩ (.string ⟨#[]⟩)) ⟨w.heap.size, 2, none⟩ (.slice none 0 0)) ⟨w.heap.size, 3, none⟩ (.slice none 0 0)) ⟨w.heap.size, 4, none⟩ (.slice (some ⟨w.heap.size + 1 + 1, 0, none⟩) 1 1)).heap[w.heap.size]? = some (.cells #[.string ⟨#[77, 97, 105, 110]⟩, .string ⟨#[]⟩, .slice none 0 0, .slice none 0 0, .slice (some ⟨w.heap.size + 1 + 1, 0, none⟩) 1 1] 28 (0, 0)) := set_chain5 b02
  refine bodyPost_ret (results_12 (World.setCell (World.setCell (World.setCell (World.setCell (World.setCell W2 ⟨w.heap.size, 0, none⟩ (.string ⟨#[77, 97, 105, 110]⟩)) ⟨w.heap.size, 1, none⟩ (.string ⟨#[]⟩)) ⟨w.heap.size, 2, none⟩ (.slice none 0 0)) ⟨w.heap.size, 3, none⟩ (.slice none 0 0)) ⟨w.heap.size, 4, none⟩ (.slice (some ⟨w.heap.size + 1 + 1, 0, none⟩) 1 1)) w.heap.size _ _ _ _ _ hZ _ rfl) rfl ?_
  exact ⟨w.heap.size + 1, w.heap.size + 1 + 1, rfl, by omega, by omega, by omega, FF.heap b12 (fun e => by omega), FF.heap b2 (fun e => by omega), HF.out.trans FF (fun _ _ f => f) (fun i hi e => by omega)⟩
end Go.Proofs.YthncdbobjeeeaaaGreatDoor

/- What the laws hold as known. -/
namespace Go.Proofs.YthncdbobjeeeaaaGreatDoor
open Go.ChangeShapes Go.WideShapes Go.ChangeAt Go.RowKit

def smM (op : Int) : Mt := ⟨⟨#[109, 97, 105, 110]⟩, [], ⟨0, e0⟩, 1, 0, [(op, 0)], []⟩
def smC (op : Int) : Cl := ⟨⟨#[77, 97, 105, 110]⟩, e0, [], [], [smM op]⟩
def smK (r : Nat) : Ks := ⟨⟨#[77, 97, 105, 110]⟩, e0, ⟨none, 0, 0⟩, ⟨none, 0, 0⟩, ⟨some ⟨r, 0, none⟩, 1, 1⟩⟩
def smS (q : Nat) : Ms := ⟨⟨#[109, 97, 105, 110]⟩, ⟨none, 0, 0⟩, ⟨0, e0⟩, 1, 0, ⟨some ⟨q, 0, none⟩, 1, 1⟩, ⟨none, 0, 0⟩⟩

theorem slG_one {α : Type} {K : El α} {w : World} {r : Nat} {cells : Array Value} {t : TypeId} {fz : Nat × Nat} (hb : w.heap[r]? = some (.cells cells t fz)) (x : α) (hf : ∀ (j : Nat) (u : Value), (K.f x)[j]? = some u → cells[j]? = some u) : SlG K w (.slice (some ⟨r, 0, none⟩) 1 1) [x] := by
  refine ⟨some ⟨r, 0, none⟩, 1, rfl, Nat.le_refl _, by unfold maxLen; omega, fun i y hi => ?_⟩
  match i, hi with
  | 0, hi =>
    simp only [List.getElem?_cons_zero, Option.some.injEq] at hi
    subst hi
    refine ⟨r, 0, rfl, fun j u hj => ?_⟩
    unfold World.cell?
    simp only [hb, Nat.zero_mul, Nat.zero_add]
    exact hf j u hj
  | n + 1, hi => simp at hi

theorem slI_one {w : World} {r : Nat} {a b : Int} {t : TypeId} {fz : Nat × Nat} (hb : w.heap[r]? = some (.cells #[.int .i64 a, .int .i64 b] t fz)) : SlI w (.slice (some ⟨r, 0, none⟩) 1 1) [(a, b)] := by
  refine ⟨some ⟨r, 0, none⟩, 1, rfl, Nat.le_refl _, by unfold maxLen; omega, fun i y hi => ?_⟩
  match i, hi with
  | 0, hi =>
    simp only [List.getElem?_cons_zero, Option.some.injEq] at hi
    subst hi
    exact ⟨r, 0, rfl, by unfold World.cell?; simp only [hb]; rfl, by unfold World.cell?; simp only [hb]; rfl⟩
  | n + 1, hi => simp at hi

theorem smS_at {w : World} {q : Nat} {op : Int} (hq : w.heap[q]? = some (.cells #[.int .i64 op, .int .i64 0] 57 (0, 0))) : MtAt w (smS q) (smM op) :=
  ⟨rfl, rfl, rfl, rfl, show SlG elTy w (.slice none 0 0) [] from (OwnG.nil _ _).sl okTy, show SlI w (.slice (some ⟨q, 0, none⟩) 1 1) [(op, 0)] from slI_one hq, show SlG elHd w (.slice none 0 0) [] from (OwnG.nil _ _).sl okHd⟩

theorem atAll_one {w : World} {s : Ms} {m : Mt} (h : MtAt w s m) : AtAll w [s] [m] := by
  refine ⟨rfl, fun i a b ha hb => ?_⟩
  match i, ha, hb with
  | 0, ha, hb => simp at ha hb; subst ha hb; exact h
  | n + 1, ha, _ => simp at ha

theorem sm_at {w : World} {q r : Nat} {op : Int} (hq : w.heap[q]? = some (.cells #[.int .i64 op, .int .i64 0] 57 (0, 0))) (hr : w.heap[r]? = some (.cells #[.string ⟨#[109, 97, 105, 110]⟩, .slice none 0 0, .int .i64 0, .string ⟨#[]⟩, .int .i64 1, .int .i64 0, .slice (some ⟨q, 0, none⟩) 1 1, .slice none 0 0] 53 (0, 0))) : ClAt w (smK r) (smC op) := by
  refine ⟨rfl, rfl, show SlG elCs w (.slice none 0 0) [] from (OwnG.nil _ _).sl okCs, show SlG elFd w (.slice none 0 0) [] from (OwnG.nil _ _).sl okFd, [smS q], show SlG elMs w (.slice (some ⟨r, 0, none⟩) 1 1) [smS q] from slG_one hr _ (fun j u hj => ?_), atAll_one (smS_at hq)⟩
  rw [← hj]
  match j with
  | 0 => rfl
  | 1 => rfl
  | 2 => rfl
  | 3 => rfl
  | 4 => rfl
  | 5 => rfl
  | 6 => rfl
  | 7 => rfl
  | n + 8 => simp [elMs, msC]

theorem fit_small (s : ByteArray) (h : s.size ≤ 1000) : fitS s := by unfold fitS; omega
theorem sm_fit (op : Int) : FitK (smC op) := ⟨⟨fit_small _ (show 4 ≤ 1000 by decide), fit_small _ (show 0 ≤ 1000 by decide), fun x hx => by simp [smC] at hx, fun x hx => by simp [smC] at hx, fun m hm => by
  simp [smC] at hm; subst hm; exact ⟨fit_small _ (show 4 ≤ 1000 by decide), fit_small _ (show 0 ≤ 1000 by decide), fun t ht => by simp [smM] at ht⟩⟩, fun x hx => by simp [smC] at hx⟩

theorem sm_chk : chk (smC 33) = 0 := by decide
theorem sm_chk6 : chk (smC 6) = 54 := by decide
theorem sm_len : (enCl (smC 33)).length = 27 := by decide
theorem sm_ecE : ecE (smC 33) = 0 := by decide
theorem sm_ecB : ecB (smC 33) = enCl (smC 33) := by unfold ecB; rw [if_pos ⟨sm_chk, by rw [sm_len]; omega⟩]
theorem sm_by : ∀ c ∈ enCl (smC 33), c < 256 := by decide
theorem sm_dec : dcE (enCl (smC 33)) = 0 ∧ dcC (enCl (smC 33)) = smC 33 := dec_compl _ sm_chk (sm_fit 33) (by rw [sm_len]; omega)

set_option maxRecDepth 100000 in
set_option maxHeartbeats 4000000 in
theorem known_any (w : World) (T : Tb w) (R : Tr w) : Calls Tryz.prog 7 #[] w fun e w' => e = .returned (.bool true) ∧ Fr no w w' := by
  have HTR : Hid (∀ w1, Fr no w w1 → Tb w1 ∧ Tr w1) := fun w1 f => ⟨T.kept f, R.kept f⟩
  clear T R
  go_enter Tryz.func7, Tryz.ntmps7
  go_wp2_with fail
  refine (small_any w).mono ?_
  rintro x w1 ⟨q1, r1, rfl, -, -, -, hq1, hr1, f1⟩
  have E := encode_any w1 (HTR.out w1 f1).1 (HTR.out w1 f1).2 (smK r1) (smC 33) (sm_at hq1 hr1) (sm_fit 33)
  rw [sm_ecE, sm_ecB] at E
  unfold ksV smK e0 at E
  simp only [] at E
  clear hq1 hr1
  go_wp2_with fail
  refine E.mono ?_
  rintro x w2 ⟨v2, rfl, o2, f2⟩
  have f2' := f1.new f2 (fun _ _ f => f)
  have D := decode_any w2 (HTR.out w2 f2').1 (HTR.out w2 f2').2 v2 _ o2.sl sm_by (by rw [sm_len]; omega)
  rw [sm_dec.1, sm_dec.2] at D
  have hsh := o2.sl.shape
  rw [sm_len] at hsh
  obtain ⟨va, vc, ev, -⟩ := hsh
  subst ev
  clear o2 E
  go_wp2_with fail
  refine D.mono ?_
  rintro x w3 ⟨ks, rfl, hcl, f3⟩
  have f3' := f2'.new f3 (fun _ _ f => f)
  obtain ⟨n, s, p, f, m⟩ := ks
  have b1 := heap_alloc_new w3 (.cells #[.string ⟨#[]⟩, .string ⟨#[]⟩, .slice none 0 0, .slice none 0 0, .slice none 0 0] 28)
  have g1 : Fr no w3 (w3.alloc (.cells #[.string ⟨#[]⟩, .string ⟨#[]⟩, .slice none 0 0, .slice none 0 0, .slice none 0 0] 28)) := (Fr.refl no w3).alloc _ _
  generalize hW3 : w3.alloc (.cells #[.string ⟨#[]⟩, .string ⟨#[]⟩, .slice none 0 0, .slice none 0 0, .slice none 0 0] 28) = W3 at *
  have b1v : (World.setCell (World.setCell (World.setCell (World.setCell (World.setCell W3 ⟨w3.heap.size, 0, none⟩ (.string n)) ⟨w3.heap.size, 1, none⟩ (.string s)) ⟨w3.heap.size, 2, none⟩ (.slice p.a p.n p.c)) ⟨w3.heap.size, 3, none⟩ (.slice f.a f.n f.c)) ⟨w3.heap.size, 4, none⟩ (.slice m.a m.n m.c)).heap[w3.heap.size]? = some (.cells #[.string n, .string s, .slice p.a p.n p.c, .slice f.a f.n f.c, .slice m.a m.n m.c] 28 (0, 0)) := set_chain5 b1
  have g1v := fr_chain5 W3 w3.heap.size (.string n) (.string s) (.slice p.a p.n p.c) (.slice f.a f.n f.c) (.slice m.a m.n m.c)
  generalize hV3 : (World.setCell (World.setCell (World.setCell (World.setCell (World.setCell W3 ⟨w3.heap.size, 0, none⟩ (.string n)) ⟨w3.heap.size, 1, none⟩ (.string s)) ⟨w3.heap.size, 2, none⟩ (.slice p.a p.n p.c)) ⟨w3.heap.size, 3, none⟩ (.slice f.a f.n f.c)) ⟨w3.heap.size, 4, none⟩ (.slice m.a m.n m.c)) = V3 at *
  have g1' : Fr no w3 V3 := g1.trans g1v (fun _ _ f => f) (fun i hi e => by omega)
  obtain ⟨⟨c0, c1, c2, c3, c4⟩, z0, z1, z2, z3, z4⟩ := cells5z b1
  have fV3 := f3'.new g1' (fun _ _ f => f)
  have HV3 : Hid (Fr no w V3 ∧ V3.heap[w3.heap.size]? = some (.cells #[.string n, .string s, .slice p.a p.n p.c, .slice f.a f.n f.c, .slice m.a m.n m.c] 28 (0, 0)) ∧ ClAt V3 ⟨n, s, p, f, m⟩ (smC 33)) := ⟨fV3, b1v, hcl.kept g1'⟩
  unfold ksV
  simp only []
  clear f1 f2 f2' f3 f3' g1 g1v g1' fV3 b1 b1v hcl D
  go_wp2_with fail
  clear hW3 hV3 c0 c1 c2 c3 c4 z0 z1 z2 z3 z4
  refine (small_any V3).mono ?_
  rintro x w4 ⟨q4, r4, rfl, hqs, hrs, hne, hq4, hr4, f4⟩
  have hB3 := f4.heap HV3.out.2.1 (fun f => f)
  have hcl4 := HV3.out.2.2.kept f4
  have fw4 := HV3.out.1.new f4 (fun _ _ f => f)
  have hlt3 : w3.heap.size < V3.heap.size := by
    have := HV3.out.2.1
    rcases Nat.lt_or_ge w3.heap.size V3.heap.size with h | h
    · exact h
    · rw [Array.getElem?_eq_none h] at this; simp at this
  have hltq : q4 < w4.heap.size := by
    rcases Nat.lt_or_ge q4 w4.heap.size with h | h
    · exact h
    · rw [Array.getElem?_eq_none h] at hq4; simp at hq4
  have hltr : r4 < w4.heap.size := by
    rcases Nat.lt_or_ge r4 w4.heap.size with h | h
    · exact h
    · rw [Array.getElem?_eq_none h] at hr4; simp at hr4
  have hlt34 := f4.size
  have b2 := heap_alloc_new w4 (.cells #[.string ⟨#[]⟩, .string ⟨#[]⟩, .slice none 0 0, .slice none 0 0, .slice none 0 0] 28)
  have g2 : Fr no w4 (w4.alloc (.cells #[.string ⟨#[]⟩, .string ⟨#[]⟩, .slice none 0 0, .slice none 0 0, .slice none 0 0] 28)) := (Fr.refl no w4).alloc _ _
  generalize hW4 : w4.alloc (.cells #[.string ⟨#[]⟩, .string ⟨#[]⟩, .slice none 0 0, .slice none 0 0, .slice none 0 0] 28) = W4 at *
  have b2v : (World.setCell (World.setCell (World.setCell (World.setCell (World.setCell W4 ⟨w4.heap.size, 0, none⟩ (.string ⟨#[77, 97, 105, 110]⟩)) ⟨w4.heap.size, 1, none⟩ (.string ⟨#[]⟩)) ⟨w4.heap.size, 2, none⟩ (.slice none 0 0)) ⟨w4.heap.size, 3, none⟩ (.slice none 0 0)) ⟨w4.heap.size, 4, none⟩ (.slice (some ⟨r4, 0, none⟩) 1 1)).heap[w4.heap.size]? = some (.cells #[.string ⟨#[77, 97, 105, 110]⟩, .string ⟨#[]⟩, .slice none 0 0, .slice none 0 0, .slice (some ⟨r4, 0, none⟩) 1 1] 28 (0, 0)) := set_chain5 b2
  have g2v := fr_chain5 W4 w4.heap.size (.string ⟨#[77, 97, 105, 110]⟩) (.string ⟨#[]⟩) (.slice none 0 0) (.slice none 0 0) (.slice (some ⟨r4, 0, none⟩) 1 1)
  generalize hV4 : (World.setCell (World.setCell (World.setCell (World.setCell (World.setCell W4 ⟨w4.heap.size, 0, none⟩ (.string ⟨#[77, 97, 105, 110]⟩)) ⟨w4.heap.size, 1, none⟩ (.string ⟨#[]⟩)) ⟨w4.heap.size, 2, none⟩ (.slice none 0 0)) ⟨w4.heap.size, 3, none⟩ (.slice none 0 0)) ⟨w4.heap.size, 4, none⟩ (.slice (some ⟨r4, 0, none⟩) 1 1)) = V4 at *
  have g2' : Fr no w4 V4 := g2.trans g2v (fun _ _ f => f) (fun i hi e => by omega)
  obtain ⟨⟨c0, c1, c2, c3, c4⟩, z0, z1, z2, z3, z4⟩ := cells5z b2
  obtain ⟨⟨d0, d1, d2, d3, d4⟩, -⟩ := cells5z b2v
  have hq5 := g2'.heap hq4 (fun f => f)
  have hr5 := g2'.heap hr4 (fun f => f)
  obtain ⟨⟨e0', e1', e2', e3', e4', e5', e6', e7'⟩, -⟩ := cells8z hr5
  obtain ⟨qc0, qc1, qz0, qz1⟩ := two_cells hq5
  have g5 : Fr (fun k => k = q4) V4 (V4.setCell ⟨q4, 0, none⟩ (.int .i64 6)) := (Fr.refl (fun k => k = q4) V4).setCell (p := ⟨q4, 0, none⟩) (fun _ => rfl) _
  have hq6 : (V4.setCell ⟨q4, 0, none⟩ (.int .i64 6)).heap[q4]? = some (.cells #[.int .i64 6, .int .i64 0] 57 (0, 0)) := by
    unfold World.setCell
    rw [Array.getElem?_modify, if_pos rfl, hq5]
    rfl
  generalize hV5 : V4.setCell ⟨q4, 0, none⟩ (.int .i64 6) = V5 at *
  have hr6 := g5.heap hr5 (fun e => hne e.symm)
  have hB3' := g5.heap (g2'.heap hB3 (fun f => f)) (fun e => by omega)
  have hB5' := g5.heap b2v (fun e => by omega)
  have f35 : Fr no V3 V5 := (f4.new g2' (fun _ _ f => f)).trans g5 (fun _ _ f => f) (fun i hi e => by omega)
  have HW5 : Hid (Fr no w V5) := HV3.out.1.new f35 (fun _ _ f => f)
  have HV5 : Hid (∀ wx, Fr no V5 wx → ClAt wx ⟨n, s, p, f, m⟩ (smC 33) ∧ ClAt wx (smK r4) (smC 6) ∧ Tb wx ∧ Tr wx) := fun wx fx => ⟨HV3.out.2.2.kept (f35.new fx (fun _ _ f => f)), sm_at (fx.heap hq6 (fun f => f)) (fx.heap hr6 (fun f => f)), HTR.out wx (HW5.out.new fx (fun _ _ f => f))⟩
  have HB : Hid (∀ wx, Fr no V5 wx → wx.heap[w3.heap.size]? = some (.cells #[.string n, .string s, .slice p.a p.n p.c, .slice f.a f.n f.c, .slice m.a m.n m.c] 28 (0, 0)) ∧ wx.heap[w4.heap.size]? = some (.cells #[.string ⟨#[77, 97, 105, 110]⟩, .string ⟨#[]⟩, .slice none 0 0, .slice none 0 0, .slice (some ⟨r4, 0, none⟩) 1 1] 28 (0, 0))) := fun wx fx => ⟨fx.heap hB3' (fun f => f), fx.heap hB5' (fun f => f)⟩
  clear hB3' hB5' f35 hq6 hr6 g5 hq5 hr5 g2 g2' g2v b2 b2v hq4 hr4 hB3 hcl4 fw4 f4
  have S10 : Hid (∀ wx q6 r6, Fr no V5 wx → wx.heap[q6]? = some (.cells #[.int .i64 33, .int .i64 0] 57 (0, 0)) → wx.heap[r6]? = some (.cells #[.string ⟨#[109, 97, 105, 110]⟩, .slice none 0 0, .int .i64 0, .string ⟨#[]⟩, .int .i64 1, .int .i64 0, .slice (some ⟨q6, 0, none⟩) 1 1, .slice none 0 0] 53 (0, 0)) → Calls Tryz.prog 10 #[.agg #[.string n, .string s, .slice p.a p.n p.c, .slice f.a f.n f.c, .slice m.a m.n m.c], .agg #[.string ⟨#[77, 97, 105, 110]⟩, .string ⟨#[]⟩, .slice none 0 0, .slice none 0 0, .slice (some ⟨r6, 0, none⟩) 1 1]] wx fun e w' => e = .returned (.bool true) ∧ Fr no wx w') :=
    fun wx q6 r6 fx hq hr => same_any wx ⟨n, s, p, f, m⟩ (smK r6) (smC 33) (HV5.out wx fx).1 (sm_at hq hr)
  have S14 : Hid (∀ wx, Fr no V5 wx → Calls Tryz.prog 14 #[.agg #[.string ⟨#[77, 97, 105, 110]⟩, .string ⟨#[]⟩, .slice none 0 0, .slice none 0 0, .slice (some ⟨r4, 0, none⟩) 1 1]] wx fun e w' => e = .returned (.int .i64 54) ∧ Fr no wx w') := by
    intro wx fx
    have C := check_any wx (HV5.out wx fx).2.2.1 (HV5.out wx fx).2.2.2 (smK r4) (smC 6) (HV5.out wx fx).2.1 (sm_fit 6).f
    rw [sm_chk6] at C
    exact C
  have S15 : Hid (∀ wx, Calls Tryz.prog 15 #[.string ⟨#[57]⟩] wx fun e w' => e = .returned (.bool false) ∧ w' = wx) := by
    intro wx
    have C := isName_any wx ⟨#[57]⟩ (by decide)
    rw [show isName ⟨#[57]⟩ = false by decide] at C
    exact C
  have KS : ∀ w2, Fr no V5 w2 → Fr no V5 w2 ∧ w2.cell? ⟨w3.heap.size, 0, none⟩ = some (.string n) ∧ w2.cell? ⟨w3.heap.size, 1, none⟩ = some (.string s) ∧ w2.cell? ⟨w3.heap.size, 2, none⟩ = some (.slice p.a p.n p.c) ∧ w2.cell? ⟨w3.heap.size, 3, none⟩ = some (.slice f.a f.n f.c) ∧ w2.cell? ⟨w3.heap.size, 4, none⟩ = some (.slice m.a m.n m.c) ∧ w2.cell? ⟨w4.heap.size, 0, none⟩ = some (.string ⟨#[77, 97, 105, 110]⟩) ∧ w2.cell? ⟨w4.heap.size, 1, none⟩ = some (.string ⟨#[]⟩) ∧ w2.cell? ⟨w4.heap.size, 2, none⟩ = some (.slice none 0 0) ∧ w2.cell? ⟨w4.heap.size, 3, none⟩ = some (.slice none 0 0) ∧ w2.cell? ⟨w4.heap.size, 4, none⟩ = some (.slice (some ⟨r4, 0, none⟩) 1 1) := fun w2 f2 => by
    obtain ⟨⟨a0, a1, a2, a3, a4⟩, -⟩ := cells5z (HB.out w2 f2).1
    obtain ⟨⟨b0, b1, b2, b3, b4⟩, -⟩ := cells5z (HB.out w2 f2).2
    exact ⟨f2, a0, a1, a2, a3, a4, b0, b1, b2, b3, b4⟩
  have f5 : Fr no V5 V5.drew := (Fr.refl no V5).drew
  go_wp2_with fail
  clear hW4 hV4 hV5 c0 c1 c2 c3 c4 z0 z1 z2 z3 z4 d0 d1 d2 d3 d4 e0' e1' e2' e3' e4' e5' e6' e7' qc0 qc1 qz0 qz1 hqs hrs hne hlt3 hltq hltr hlt34
  obtain ⟨-, a0, a1, a2, a3, a4, b0, b1, b2, b3, b4⟩ := KS V5 (Fr.refl no V5)
  go_region_held3 (fun w2 => Fr no V5 w2 ∧ w2.cell? ⟨w3.heap.size, 0, none⟩ = some (.string n) ∧ w2.cell? ⟨w3.heap.size, 1, none⟩ = some (.string s) ∧ w2.cell? ⟨w3.heap.size, 2, none⟩ = some (.slice p.a p.n p.c) ∧ w2.cell? ⟨w3.heap.size, 3, none⟩ = some (.slice f.a f.n f.c) ∧ w2.cell? ⟨w3.heap.size, 4, none⟩ = some (.slice m.a m.n m.c) ∧ w2.cell? ⟨w4.heap.size, 0, none⟩ = some (.string ⟨#[77, 97, 105, 110]⟩) ∧ w2.cell? ⟨w4.heap.size, 1, none⟩ = some (.string ⟨#[]⟩) ∧ w2.cell? ⟨w4.heap.size, 2, none⟩ = some (.slice none 0 0) ∧ w2.cell? ⟨w4.heap.size, 3, none⟩ = some (.slice none 0 0) ∧ w2.cell? ⟨w4.heap.size, 4, none⟩ = some (.slice (some ⟨r4, 0, none⟩) 1 1)) (first | exact KS _ (Fr.refl no _).drew | exact KS _ f9' | exact KS _ f8' | exact KS _ f7' | exact KS _ f6')
    (first | (go_at_call 12; refine (small_any _).mono ?_; rintro e w6 ⟨q6, r6, rfl, -, -, -, hq6, hr6, f6⟩; have f6' : Fr no V5 w6 := f5.new f6 (fun _ _ f => f))
           | (go_at_call 10; refine (S10.out w6 q6 r6 f6' hq6 hr6).mono ?_; rintro e w7 ⟨rfl, f7⟩; have f7' : Fr no V5 w7 := f6'.new f7 (fun _ _ f => f))
           | (go_at_call 14; refine (S14.out w7 f7').mono ?_; rintro e w8 ⟨rfl, f8⟩; have f8' : Fr no V5 w8 := f7'.new f8 (fun _ _ f => f))
           | (go_at_call 15; refine (S15.out w8).mono ?_; rintro e w9 ⟨rfl, rfl⟩))
  all_goals
    go_wp2_with fail
    go_ret
    exact ⟨rfl, HW5.out.new f8' (fun _ _ f => f)⟩
end Go.Proofs.YthncdbobjeeeaaaGreatDoor

