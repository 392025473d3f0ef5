/- A flow laid: its block, its rows, its rules, the state in which a method begins. -/
import Derived.Test.YtpfkigoffllieaaGreatDoorJaz
import Derived.Test.YtpfkigoffllieaaGreatDoorJax
namespace Go.Proofs.YtpfkigoffllieaaGreatDoor
open Go.ChangeShapes Go.WideShapes Go.ChangeAt Go.RowKit
open H (ix NewV)

theorem ev_make {o : Oper} {a : Act} {w : World} (t : TypeId) (x : Nat) (v u : Value) (w' : World) (ho : o.op = .makeSlice t (.tmp x) (.tmp x)) (hx : a.eval (.tmp x) = v) (hr : (Instr.makeSlice t v v).run Tryz.prog w = .ok u w') : (execOp a.eval o).run Tryz.prog w = .ok (.value u) w' := by
  unfold execOp; simp [ho, hx, hr, Result.andThen]

theorem ev_index0 {o : Oper} {a : Act} {w : World} (t : TypeId) (x : Nat) (c v u : Value) (ho : o.op = .indexAddr t (.tmp x) (.const c)) (hx : a.eval (.tmp x) = v) (hr : (Instr.indexAt t v c).run Tryz.prog w = .ok u w) : (execOp a.eval o).run Tryz.prog w = .ok (.value u) w := by
  have hc : a.eval (.const c) = c := rfl
  unfold execOp; simp [ho, hx, hc, hr]
theorem ev_storeC {o : Oper} {a : Act} {w : World} (t : TypeId) (x : Nat) (c p : Value) (w' : World) (ho : o.op = .store t (.tmp x) (.const c)) (hx : a.eval (.tmp x) = p) (hr : (Instr.storeAt t p c).run Tryz.prog w = .ok () w') : (execOp a.eval o).run Tryz.prog w = .ok .skip w' := by
  have hc : a.eval (.const c) = c := rfl
  unfold execOp; simp [ho, hx, hc, hr, Result.andThen]

theorem lt_of_cell {w : World} {p : Addr} {u : Value} (h : w.cell? p = some u) : p.block < w.heap.size := by
  unfold World.cell? at h
  by_cases hb : p.block < w.heap.size
  · exact hb
  · rw [Array.getElem?_eq_none (by omega)] at h
    simp at h

theorem H.OwnG.has0 {w : World} {C n : Nat} {l : List Bool} (h : H.OwnG elB w (.slice (some ⟨C, 0, none⟩) n n) l) (hn : 0 < n) : ∃ v, w.cell? ⟨C, 0, none⟩ = some v := by
  rcases h.2 with ⟨e, _⟩ | ⟨g, cap, cur, e, _, hg, h1, h2, h3, _⟩
  · simp at e
  · simp only [Value.slice.injEq, Option.some.injEq, Addr.mk.injEq, and_true] at e
    obtain ⟨rfl, -, rfl⟩ := e
    exact ⟨_, by rw [cell_at hg, Array.getElem?_eq_getElem (by omega)]⟩

theorem SlG.keptP {α : Type} {K : El α} {P : Nat → Prop} {w w' : World} {a : Option Addr} {n c : Nat} {l : List α} (h : SlG K w (.slice a n c) l) (hf : Fr P w w') (hn : l ≠ [] → ∀ ad, a = some ad → ¬ P ad.block) : SlG K w' (.slice a n c) l := by
  obtain ⟨ad, cap, e, h1, h2, h3⟩ := h
  simp only [Value.slice.injEq] at e
  obtain ⟨rfl, rfl, rfl⟩ := e
  refine ⟨a, c, rfl, h1, h2, fun i x hx => ?_⟩
  obtain ⟨b, off, rfl, hj⟩ := h3 i x hx
  have hb : ¬ P b := hn (fun e => by rw [e] at hx; simp at hx) ⟨b, off, none⟩ rfl
  exact ⟨b, off, rfl, fun j u hu => hf.cell (hj j u hu) hb⟩

theorem SlG.blt {α : Type} {K : El α} (hK : K.Ok) {w : World} {a : Option Addr} {n c : Nat} {l : List α} (h : SlG K w (.slice a n c) l) (hl : l ≠ []) (ad : Addr) (ha : a = some ad) : ad.block < w.heap.size := by
  obtain ⟨ad', cap, e, h1, h2, h3⟩ := h
  simp only [Value.slice.injEq] at e
  obtain ⟨rfl, rfl, rfl⟩ := e
  subst ha
  obtain ⟨y, r, rfl⟩ := List.exists_cons_of_ne_nil hl
  obtain ⟨b, off, e, hj⟩ := h3 0 y rfl
  simp only [Option.some.injEq] at e
  subst e
  have h0 : 0 < (K.f y).length := by rw [hK.len]; exact hK.pos
  have := hj 0 _ (List.getElem?_eq_getElem h0)
  exact lt_of_cell (p := ⟨b, off + 0 * K.n + 0, none⟩) this

theorem RuAt.keptP {P : Nat → Prop} {w w' : World} {s : Ru} {x : Rl} (h : RuAt w s x) (hf : Fr P w w') (h1 : x.tk ≠ [] → ∀ ad, s.tk.a = some ad → ¬ P ad.block) (h2 : x.pt ≠ [] → ∀ ad, s.pt.a = some ad → ¬ P ad.block) : RuAt w' s x :=
  ⟨h.nv, h.tk.keptP hf h1, h.pt.keptP hf h2, h.pc⟩

set_option maxRecDepth 100000 in
set_option maxHeartbeats 8000000 in
theorem newFlow_any (w : World) (p hp : Nat) (k : Ks) (m : Ms) (cd : List (Int × Int)) (hq : w.cell? ⟨p, 0, none⟩ = some (.pointer (some ⟨hp, 0, none⟩))) (hcd : SlG elIn w (.slice m.c.a m.c.n m.c.c) cd) (h0 : 0 < cd.length) (h2 : cd.length ≤ 200)
    (hops : ∀ x ∈ cd, x.1 ∈ plainOps ∨ x.1 = 33 ∧ m.ret.k = 0) (hpn : m.p.n = 0) (hp0 : m.p.a = none → m.p.c = 0) (ts : List Ty) (hlo : Low m.lo ts) (hh : m.h.n = 0) (tr : Tr w) (fo : FitQ w (.pointer (some ⟨hp, 0, none⟩))) :
    Calls Tryz.prog 58 #[.pointer (some ⟨p, 0, none⟩), ksV k, msV m] w fun e w' => ∃ f S C c, e = .returned (.pointer (some ⟨f, 0, none⟩)) ∧ (∀ w2, Fr (Tn S C c) w' w2 → Con w2 f S C m.st cd (cd.map fun x => ruleP x.1)) ∧
      Fl w' S C c cd.length (⟨true, ⟨4, k.name⟩ :: ts, []⟩ :: List.replicate (cd.length - 1) ⟨false, [], []⟩) (true :: List.replicate (cd.length - 1) false) ∧ c ≤ w'.heap.size ∧ (f < c ∧ f ≠ S ∧ f ≠ C) ∧ (w.heap.size ≤ S ∧ w.heap.size ≤ C ∧ w.heap.size ≤ c) ∧ Fr no w w' := by
  obtain ⟨kn, ks, ⟨kpa, kpn, kpc⟩, ⟨kfa, kfn, kfc⟩, ⟨kma, kmn, kmc⟩⟩ := k
  obtain ⟨mn, ⟨pa, pn, pc⟩, ⟨rk, rc⟩, lo, st, ⟨ca, cn', cc⟩, ⟨ha, hn, hc⟩⟩ := m
  simp only at hcd hops hpn hp0 hlo hh ⊢
  subst hpn hh
  obtain ⟨ad, cap, hv, hcl, hcm, hit⟩ := hcd
  simp only [Value.slice.injEq] at hv
  obtain ⟨rfl, rfl, rfl⟩ := hv
  obtain ⟨cb, co, rfl, -⟩ := hit 0 cd[0] (List.getElem?_eq_getElem h0)
  have HIT : Hid (∀ (i : Nat) (x : Int × Int), cd[i]? = some x → w.cell? ⟨cb, co + i * 2, none⟩ = some (.int .i64 x.1) ∧ w.cell? ⟨cb, co + i * 2 + 1, none⟩ = some (.int .i64 x.2)) := fun i x hx => by
    obtain ⟨b', off', e, hj⟩ := hit i x hx
    simp only [Option.some.injEq, Addr.mk.injEq, and_true] at e
    obtain ⟨rfl, rfl⟩ := e
    exact ⟨hj 0 _ rfl, hj 1 _ rfl⟩
  clear hit
  generalize hcdl : cd.length = n at *
  unfold ksV msV
  simp only
  generalize hW1 : (w.alloc (.cells #[.string kn, .string ks, .slice kpa kpn kpc, .slice kfa kfn kfc, .slice kma kmn kmc] 68)).alloc (.cells #[.string mn, .slice pa 0 pc, .int .i64 rk, .string rc, .int .i64 lo, .int .i64 st, .slice (some ⟨cb, co, none⟩) n cc, .slice ha 0 hc] 64) = W1
  have G0 : Fr no w (w.alloc (.cells #[.string kn, .string ks, .slice kpa kpn kpc, .slice kfa kfn kfc, .slice kma kmn kmc] 68)) := (Fr.refl no w).alloc _ _
  have G1 : Fr no (w.alloc (.cells #[.string kn, .string ks, .slice kpa kpn kpc, .slice kfa kfn kfc, .slice kma kmn kmc] 68)) W1 := by rw [← hW1]; exact (Fr.refl no _).alloc _ _
  have F1 : Fr no w W1 := G0.new G1 (fun _ _ f => f)
  have E0 : W1.heap[w.heap.size]? = some (.cells #[.string kn, .string ks, .slice kpa kpn kpc, .slice kfa kfn kfc, .slice kma kmn kmc] 68 (0, 0)) := G1.heap (heap_alloc_new w _) (fun f => f)
  have E1 : W1.heap[w.heap.size + 1]? = some (.cells #[.string mn, .slice pa 0 pc, .int .i64 rk, .string rc, .int .i64 lo, .int .i64 st, .slice (some ⟨cb, co, none⟩) n cc, .slice ha 0 hc] 64 (0, 0)) := by rw [← hW1, ← size_alloc w (.cells #[.string kn, .string ks, .slice kpa kpn kpc, .slice kfa kfn kfc, .slice kma kmn kmc] 68)]; exact heap_alloc_new _ _
  have s1 : W1.heap.size = w.heap.size + 2 := by rw [← hW1, size_alloc, size_alloc]
  have HL : Hid (∀ w', Fr no W1 w' → w'.heap[w.heap.size]? = some (.cells #[.string kn, .string ks, .slice kpa kpn kpc, .slice kfa kfn kfc, .slice kma kmn kmc] 68 (0, 0)) ∧ w'.heap[w.heap.size + 1]? = some (.cells #[.string mn, .slice pa 0 pc, .int .i64 rk, .string rc, .int .i64 lo, .int .i64 st, .slice (some ⟨cb, co, none⟩) n cc, .slice ha 0 hc] 64 (0, 0)) ∧ Fr no w w') := fun w' hf => ⟨hf.heap E0 (fun f => f), hf.heap E1 (fun f => f), F1.new hf (fun _ _ f => f)⟩
  have HH : Hid (∀ w', Fr no W1 w' → Calls Tryz.prog 95 #[.pointer (some ⟨p, 0, none⟩)] w' fun e w2 => e = .returned (.pointer (some ⟨hp, 0, none⟩)) ∧ w2 = w') := fun w' hf => hierOf_any w' p _ (hf.cell (F1.cell hq (fun f => f)) (fun f => f))
  have HS0 : Hid (Fr no W1 W1.drew) := (Fr.refl no W1).drew
  have HN : Hid (n ≤ 1000) := Nat.le_trans h2 (by decide)
  have HOPS : Hid _ := hops
  have HFO : Hid (FitQ w (.pointer (some ⟨hp, 0, none⟩))) := fo
  have HLO : Hid (Low lo ts) := hlo
  have HP0 : Hid _ := hp0
  have HQ : Hid _ := hq
  have L6 := cell_at (o := 6) E1
  simp at L6
  have HS1 : Hid _ := s1
  clear G0 G1 F1 E0 E1 hops hp0 hq s1 fo hlo
  go_enter Tryz.func58, Tryz.ntmps58
  go_wp2_with fail
  refine late_begin (S := fun w' => Fr no W1 w') (g := 13) (by kernel_rfl) ?_
  refine late_pure 0 (.pointer (some ⟨p, 0, none⟩)) rfl (by kernel_rfl) (by kernel_rfl) (by kernel_rfl) (fun _ _ _ h => h) (by decide) (yields rfl (fun _ _ => ev_move 0 _ rfl (by kernel_rfl))) (fun _ => HS0.out) ?_
  refine late_take 2 (.agg #[.string mn, .slice pa 0 pc, .int .i64 rk, .string rc, .int .i64 lo, .int .i64 st, .slice (some ⟨cb, co, none⟩) n cc, .slice ha 0 hc]) rfl (by kernel_rfl) (by kernel_rfl) (by kernel_rfl) (fun _ _ _ h => h) (waits_of (by kernel_rfl)) (by decide) (by kernel_rfl) (yields rfl (fun w' hS => ev_load 64 5 (.pointer (some ⟨w.heap.size + 1, 0, none⟩)) _ rfl (by kernel_rfl) (load_row w' (w.heap.size + 1) 64 _ _ (HL.out w' hS).2.1 Tryz.underlying64 rfl (by kernel_rfl)))) (HS0.out) ?_
  refine late_pure 3 (.pointer (some ⟨w.heap.size, 2, none⟩)) rfl (by kernel_rfl) (by kernel_rfl) (by kernel_rfl) (fun _ _ _ h => h) (by decide) (yields rfl (fun _ _ => ev_field 68 4 2 (.pointer (some ⟨w.heap.size, 0, none⟩)) _ rfl (by kernel_rfl) (by kernel_rfl))) (fun _ => HS0.out) ?_
  refine late_take 4 (.slice kpa kpn kpc) rfl (by kernel_rfl) (by kernel_rfl) (by kernel_rfl) (fun _ _ _ h => h) (waits_of (by kernel_rfl)) (by decide) (by kernel_rfl) (yields rfl (fun w' hS => ev_load 33 17 (.pointer (some ⟨w.heap.size, 2, none⟩)) _ rfl (by kernel_rfl) (by simp [go_sem, cell_at (o := 2) (HL.out w' hS).1]))) (HS0.out) ?_
  refine late_pure 5 (.int .i64 (n : Int)) rfl (by kernel_rfl) (by kernel_rfl) (by kernel_rfl) (fun _ _ _ h => h) (by decide) (yields rfl (fun _ _ => ev_move 7 _ rfl (by kernel_rfl))) (fun _ => HS0.out) ?_
  refine late_pure 7 (.int .i64 (n : Int)) rfl (by kernel_rfl) (by kernel_rfl) (by kernel_rfl) (fun _ _ _ h => h) (by decide) (yields rfl (fun _ _ => ev_move 7 _ rfl (by kernel_rfl))) (fun _ => HS0.out) ?_
  refine late_pure 9 (.int .i64 (n : Int)) rfl (by kernel_rfl) (by kernel_rfl) (by kernel_rfl) (fun _ _ _ h => h) (by decide) (yields rfl (fun _ _ => ev_move 7 _ rfl (by kernel_rfl))) (fun _ => HS0.out) ?_
  refine with_cont (m := 3) (Nat × Nat × Nat) #[true, true, true, true, true, true, true, true, true, true, true, false, false, false] (fun x => { tmps := #[.pointer (some ⟨p, 0, none⟩), .agg #[.string kn, .string ks, .slice kpa kpn kpc, .slice kfa kfn kfc, .slice kma kmn kmc], .agg #[.string mn, .slice pa 0 pc, .int .i64 rk, .string rc, .int .i64 lo, .int .i64 st, .slice (some ⟨cb, co, none⟩) n cc, .slice ha 0 hc], undef, .pointer (some ⟨w.heap.size, 0, none⟩), .pointer (some ⟨w.heap.size + 1, 0, none⟩), .pointer none, .int .i64 (n : Int), undef, undef, undef, .pointer (some ⟨w.heap.size + 1, 6, none⟩), .slice (some ⟨cb, co, none⟩) n cc, .int .i64 (n : Int), .pointer (some ⟨p, 0, none⟩), .pointer (some ⟨hp, 0, none⟩), .agg #[.string mn, .slice pa 0 pc, .int .i64 rk, .string rc, .int .i64 lo, .int .i64 st, .slice (some ⟨cb, co, none⟩) n cc, .slice ha 0 hc], .pointer (some ⟨w.heap.size, 2, none⟩), .slice kpa kpn kpc, .int .i64 (n : Int), .slice (some ⟨x.1, 0, none⟩) n n, .int .i64 (n : Int), .slice (some ⟨x.2.1, 0, none⟩) n n, .int .i64 (n : Int), .slice (some ⟨x.2.2, 0, none⟩) n n, undef, undef, undef, undef, undef, undef, undef, undef, undef, undef, undef, undef, undef, undef, undef, undef, undef, undef, undef, undef, undef, undef, undef, undef, undef, undef, undef, undef, undef, undef, undef, undef, undef, undef, undef, undef, undef, undef], defers := [] }) (fun x w' => OwnG elRu w' (.slice (some ⟨x.1, 0, none⟩) n n) (List.replicate n ⟨false, ⟨none, 0, 0⟩, ⟨none, 0, 0⟩⟩) ∧ OwnG elSa w' (.slice (some ⟨x.2.1, 0, none⟩) n n) (List.replicate n ⟨false, ⟨none, 0, 0⟩, ⟨none, 0, 0⟩, ⟨none, 0, 0⟩⟩) ∧ H.OwnG elB w' (.slice (some ⟨x.2.2, 0, none⟩) n n) (List.replicate n false) ∧ (W1.heap.size ≤ x.1 ∧ W1.heap.size ≤ x.2.1 ∧ W1.heap.size ≤ x.2.2) ∧ Fr no W1 w') ?_ (fun CONT => ?_)
  · rintro ⟨R, S, C⟩ w2 ⟨oR, oS, oC, ⟨lR, lS, lC⟩, g2⟩
    simp only at oR oS oC lR lS lC ⊢
    refine late_pure 11 (.agg #[.pointer (some ⟨hp, 0, none⟩), .string mn, .slice pa 0 pc, .int .i64 rk, .string rc, .int .i64 lo, .int .i64 st, .slice (some ⟨cb, co, none⟩) n cc, .slice ha 0 hc, .slice kpa kpn kpc, .slice (some ⟨R, 0, none⟩) n n, .slice (some ⟨S, 0, none⟩) n n, .slice (some ⟨C, 0, none⟩) n n]) rfl (by kernel_rfl) (by kernel_rfl) (by kernel_rfl) (fun _ _ _ h => h) (by decide) (yields rfl (fun _ _ => by kernel_rfl)) (fun _ => g2) ?_
    refine late_all [12] (by kernel_rfl) (by simp) (fun jj hjj => ?_)
    obtain rfl := one_of hjj
    refine late_op rfl rfl (show _ = Result.ok (Next.value (.pointer (some ⟨w2.heap.size, 0, none⟩))) (w2.alloc (.cells #[.pointer (some ⟨hp, 0, none⟩), .string mn, .slice pa 0 pc, .int .i64 rk, .string rc, .int .i64 lo, .int .i64 st, .slice (some ⟨cb, co, none⟩) n cc, .slice ha 0 hc, .slice kpa kpn kpc, .slice (some ⟨R, 0, none⟩) n n, .slice (some ⟨S, 0, none⟩) n n, .slice (some ⟨C, 0, none⟩) n n] 126)) by kernel_rfl) ?_
    have g3 : Fr no w2 (w2.alloc (.cells #[.pointer (some ⟨hp, 0, none⟩), .string mn, .slice pa 0 pc, .int .i64 rk, .string rc, .int .i64 lo, .int .i64 st, .slice (some ⟨cb, co, none⟩) n cc, .slice ha 0 hc, .slice kpa kpn kpc, .slice (some ⟨R, 0, none⟩) n n, .slice (some ⟨S, 0, none⟩) n n, .slice (some ⟨C, 0, none⟩) n n] 126)) := (Fr.refl no w2).alloc _ _
    have EF : (w2.alloc (.cells #[.pointer (some ⟨hp, 0, none⟩), .string mn, .slice pa 0 pc, .int .i64 rk, .string rc, .int .i64 lo, .int .i64 st, .slice (some ⟨cb, co, none⟩) n cc, .slice ha 0 hc, .slice kpa kpn kpc, .slice (some ⟨R, 0, none⟩) n n, .slice (some ⟨S, 0, none⟩) n n, .slice (some ⟨C, 0, none⟩) n n] 126)).heap[w2.heap.size]? = some (.cells #[.pointer (some ⟨hp, 0, none⟩), .string mn, .slice pa 0 pc, .int .i64 rk, .string rc, .int .i64 lo, .int .i64 st, .slice (some ⟨cb, co, none⟩) n cc, .slice ha 0 hc, .slice kpa kpn kpc, .slice (some ⟨R, 0, none⟩) n n, .slice (some ⟨S, 0, none⟩) n n, .slice (some ⟨C, 0, none⟩) n n] 126 (0, 0)) := heap_alloc_new w2 _
    have sF : (w2.alloc (.cells #[.pointer (some ⟨hp, 0, none⟩), .string mn, .slice pa 0 pc, .int .i64 rk, .string rc, .int .i64 lo, .int .i64 st, .slice (some ⟨cb, co, none⟩) n cc, .slice ha 0 hc, .slice kpa kpn kpc, .slice (some ⟨R, 0, none⟩) n n, .slice (some ⟨S, 0, none⟩) n n, .slice (some ⟨C, 0, none⟩) n n] 126)).heap.size = w2.heap.size + 1 := size_alloc _ _
    generalize w2.alloc (.cells #[.pointer (some ⟨hp, 0, none⟩), .string mn, .slice pa 0 pc, .int .i64 rk, .string rc, .int .i64 lo, .int .i64 st, .slice (some ⟨cb, co, none⟩) n cc, .slice ha 0 hc, .slice kpa kpn kpc, .slice (some ⟨R, 0, none⟩) n n, .slice (some ⟨S, 0, none⟩) n n, .slice (some ⟨C, 0, none⟩) n n] 126) = W3 at *
    have g13 : Fr no W1 W3 := g2.new g3 (fun _ _ f => f)
    refine ⟨fun _ => g13, ?_⟩
    refine late_all [13] (by kernel_rfl) (by simp) (fun jj hjj => ?_)
    obtain rfl := one_of hjj
    refine late_op rfl rfl (ev_assign 26 (.pointer (some ⟨w2.heap.size, 0, none⟩)) rfl (by kernel_rfl)) ?_
    refine ⟨(fun h => Bool.noConfusion (show true = false from h)), ?_⟩
    refine late_done (by kernel_rfl) ?_
    generalize hF : w2.heap.size = F at *
    have HO : Hid (OwnG elRu W3 (.slice (some ⟨R, 0, none⟩) n n) (List.replicate n ⟨false, ⟨none, 0, 0⟩, ⟨none, 0, 0⟩⟩) ∧ OwnG elSa W3 (.slice (some ⟨S, 0, none⟩) n n) (List.replicate n ⟨false, ⟨none, 0, 0⟩, ⟨none, 0, 0⟩, ⟨none, 0, 0⟩⟩) ∧ H.OwnG elB W3 (.slice (some ⟨C, 0, none⟩) n n) (List.replicate n false)) := ⟨oR.keep g3, oS.keep g3, oC.keep g3⟩
    have lF : W1.heap.size ≤ F := hF ▸ g2.size
    clear oR oS oC g2 g3 HH
    rename_i hgo _
    refine hgo _ _ ?_
    refine wp_eq (a' := { tmps := #[.pointer (some ⟨p, 0, none⟩), .agg #[.string kn, .string ks, .slice kpa kpn kpc, .slice kfa kfn kfc, .slice kma kmn kmc], .agg #[.string mn, .slice pa 0 pc, .int .i64 rk, .string rc, .int .i64 lo, .int .i64 st, .slice (some ⟨cb, co, none⟩) n cc, .slice ha 0 hc], undef, .pointer (some ⟨w.heap.size, 0, none⟩), .pointer (some ⟨w.heap.size + 1, 0, none⟩), .pointer none, .int .i64 (n : Int), .pointer (some ⟨F, 0, none⟩), undef, undef, .pointer (some ⟨w.heap.size + 1, 6, none⟩), .slice (some ⟨cb, co, none⟩) n cc, .int .i64 (n : Int), .pointer (some ⟨p, 0, none⟩), .pointer (some ⟨hp, 0, none⟩), .agg #[.string mn, .slice pa 0 pc, .int .i64 rk, .string rc, .int .i64 lo, .int .i64 st, .slice (some ⟨cb, co, none⟩) n cc, .slice ha 0 hc], .pointer (some ⟨w.heap.size, 2, none⟩), .slice kpa kpn kpc, .int .i64 (n : Int), .slice (some ⟨R, 0, none⟩) n n, .int .i64 (n : Int), .slice (some ⟨S, 0, none⟩) n n, .int .i64 (n : Int), .slice (some ⟨C, 0, none⟩) n n, .agg #[.pointer (some ⟨hp, 0, none⟩), .string mn, .slice pa 0 pc, .int .i64 rk, .string rc, .int .i64 lo, .int .i64 st, .slice (some ⟨cb, co, none⟩) n cc, .slice ha 0 hc, .slice kpa kpn kpc, .slice (some ⟨R, 0, none⟩) n n, .slice (some ⟨S, 0, none⟩) n n, .slice (some ⟨C, 0, none⟩) n n], .pointer (some ⟨F, 0, none⟩), undef, undef, undef, undef, undef, undef, undef, undef, undef, undef, undef, undef, undef, undef, undef, undef, undef, undef, undef, undef, undef, undef, undef, undef, undef, undef, undef, undef, undef, undef, undef, undef, undef, undef, undef, undef], defers := [] }) (by kernel_rfl) ?_
    clear hgo
    have L63 := cell_at (o := 6) (HL.out W3 g13).2.1
    simp at L63
    have HR : Hid (F < W3.heap.size ∧ F ≠ R ∧ F ≠ S ∧ F ≠ C ∧ R ≠ S ∧ R ≠ C ∧ S ≠ C ∧ R < W3.heap.size ∧ S < W3.heap.size ∧ C < W3.heap.size ∧ W1.heap.size ≤ F) := by
      obtain ⟨o1, o2, o3⟩ := HO.out
      obtain ⟨c1, t1⟩ := o1.tag (k := R) rfl
      obtain ⟨c2, t2⟩ := o2.tag (k := S) rfl
      obtain ⟨c3, t3⟩ := o3.tag (k := C) rfl
      exact ⟨by omega, ne_tag EF t1 (by decide), ne_tag EF t2 (by decide), ne_tag EF t3 (by decide), ne_tag t1 t2 (by decide), ne_tag t1 t3 (by decide), ne_tag t2 t3 (by decide), lt_of_heap t1, lt_of_heap t2, lt_of_heap t3, lF⟩
    have HEF : Hid _ := EF
    have HG : Hid _ := g13
    have HLT : Hid (W1.heap.size ≤ R ∧ W1.heap.size ≤ S ∧ W1.heap.size ≤ C) := ⟨lR, lS, lC⟩
    clear EF g13 lR lS lC sF hF L6 lF
    go_wp2_with fail
    go_loopw [30] (fun i wr => ∃ (k : Nat) (rs : List Ru), i = .int .i64 (k : Int) ∧ k ≤ n ∧ OwnG elRu wr (.slice (some ⟨R, 0, none⟩) n n) rs ∧ rs.length = n ∧ (∀ (j : Nat) (s : Ru) (x : Int × Int), j < k → rs[j]? = some s → cd[j]? = some x → RuAt wr s (ruleP x.1) ∧ NewR W3 s) ∧ Fr (fun b => b = R) W3 wr) (fun i _ => n - (intOf i).toNat)
    case atStart => exact ⟨0, _, rfl, Nat.zero_le _, HO.out.1, by simp, fun j s x hj => absurd hj (Nat.not_lt_zero _), Fr.refl _ _⟩
    case round =>
      obtain ⟨k, rs, rfl, hkn, oR, hrl, hru, fR⟩ := hrel
      by_cases hlt : k < n
      · have hki : (k : Int) < (n : Int) := by omega
        obtain ⟨x, hx⟩ : ∃ x, cd[k]? = some x := ⟨_, List.getElem?_eq_getElem (by omega)⟩
        have fw1 : Fr no w W1 := (HL.out W1 (Fr.refl no W1)).2.2
        have cbl : cb < w.heap.size := lt_of_cell (HIT.out k x hx).1
        have hs1 := HS1.out
        have hlt3 := HLT.out
        have hr3 := HR.out
        have i0 : wr.cell? ⟨cb, co + k * 2, none⟩ = some (.int .i64 x.1) := fR.cell (HG.out.cell (fw1.cell (HIT.out k x hx).1 (fun f => f)) (fun f => f)) (fun e => by simp only at e; omega)
        have i1 : wr.cell? ⟨cb, co + k * 2 + 1, none⟩ = some (.int .i64 x.2) := fR.cell (HG.out.cell (fw1.cell (HIT.out k x hx).2 (fun f => f)) (fun f => f)) (fun e => by simp only at e; omega)
        generalize hW4 : wr.alloc (.cells #[.int .i64 x.1, .int .i64 x.2] 26) = W4
        have G4 : Fr no wr W4 := by rw [← hW4]; exact (Fr.refl no wr).alloc _ _
        have E4 : W4.heap[wr.heap.size]? = some (.cells #[.int .i64 x.1, .int .i64 x.2] 26 (0, 0)) := by rw [← hW4]; exact heap_alloc_new wr _
        have f34 : Fr (fun b => b = R) W3 W4 := fR.trans G4 (fun _ _ e => e) (fun _ _ e => e.elim)
        have HL4 : Hid (∀ w', Fr no W4 w' → w'.heap[w.heap.size]? = some (.cells #[.string kn, .string ks, .slice kpa kpn kpc, .slice kfa kfn kfc, .slice kma kmn kmc] 68 (0, 0)) ∧ w'.heap[w.heap.size + 1]? = some (.cells #[.string mn, .slice pa 0 pc, .int .i64 rk, .string rc, .int .i64 lo, .int .i64 st, .slice (some ⟨cb, co, none⟩) n cc, .slice ha 0 hc] 64 (0, 0)) ∧ w'.cell? ⟨F, 10, none⟩ = some (.slice (some ⟨R, 0, none⟩) n n) ∧ w'.heap[wr.heap.size]? = some (.cells #[.int .i64 x.1, .int .i64 x.2] 26 (0, 0))) := fun w' hf => by
          obtain ⟨e1, e2, -⟩ := HL.out W3 HG.out
          exact ⟨hf.heap (f34.heap e1 (by omega)) (fun f => f), hf.heap (f34.heap e2 (by omega)) (fun f => f), hf.cell (f34.cell (cell_at (o := 10) HEF.out) hr3.2.1) (fun f => f), hf.heap E4 (fun f => f)⟩
        have HIX : Hid (∀ w' : World, (Instr.indexAt 124 (.slice (some ⟨R, 0, none⟩) n n) (.int .i64 (k : Int))).run Tryz.prog w' = .ok (.pointer (some ⟨R, k * 3, none⟩)) w') := fun w' => by simp [go_sem, hki]
        have HS4 : Hid (Fr no W4 W4.drew) := (Fr.refl no W4).drew
        have HB : Hid (_ ∧ _ ∧ _ ∧ _ ∧ _ ∧ _) := ⟨oR.keep G4, hrl, hru, f34, G4, hx⟩
        clear oR hrl hru f34 G4 E4 fR fw1 cbl hs1 hlt3 hr3
        have HCALL : Hid (Calls Tryz.prog 96 #[.pointer (some ⟨p, 0, none⟩), .slice kpa kpn kpc, .agg #[.string mn, .slice pa 0 pc, .int .i64 rk, .string rc, .int .i64 lo, .int .i64 st, .slice (some ⟨cb, co, none⟩) n cc, .slice ha 0 hc], .agg #[.int .i64 x.1, .int .i64 x.2]] W4.drew fun e w' => ∃ ru, e = .returned (ruV ru) ∧ RuAt w' ru (ruleP x.1) ∧ NewR W4.drew ru ∧ Fr no W4.drew w') := ruleOf_any W4.drew _ _ ⟨mn, ⟨pa, 0, pc⟩, ⟨rk, rc⟩, lo, st, ⟨some ⟨cb, co, none⟩, n, cc⟩, ⟨ha, 0, hc⟩⟩ x.1 x.2 (HOPS.out x (List.mem_of_getElem? HB.out.2.2.2.2.2))
        go_wp2_with fail
        refine late_begin (S := fun w' => Fr no W4 w') (g := 12) (by kernel_rfl) ?_
        refine late_pure 0 (.pointer (some ⟨F, 0, none⟩)) rfl (by kernel_rfl) (by kernel_rfl) (by kernel_rfl) (fun _ _ _ h => h) (by decide) (yields rfl (fun _ _ => ev_move 8 _ rfl (by kernel_rfl))) (fun _ => HS4.out) ?_
        refine late_pure 1 (.pointer (some ⟨F, 0, none⟩)) rfl (by kernel_rfl) (by kernel_rfl) (by kernel_rfl) (fun _ _ _ h => h) (by decide) (yields rfl (fun _ _ => ev_nil 35 ⟨F, 0, none⟩ rfl (by kernel_rfl))) (fun _ => HS4.out) ?_
        refine late_pure 2 (.pointer (some ⟨F, 10, none⟩)) rfl (by kernel_rfl) (by kernel_rfl) (by kernel_rfl) (fun _ _ _ h => h) (by decide) (yields rfl (fun _ _ => ev_field 126 36 3 (.pointer (some ⟨F, 0, none⟩)) _ rfl (by kernel_rfl) (by kernel_rfl))) (fun _ => HS4.out) ?_
        refine late_take 3 (.slice (some ⟨R, 0, none⟩) n n) rfl (by kernel_rfl) (by kernel_rfl) (by kernel_rfl) (fun _ _ _ h => h) (waits_of (by kernel_rfl)) (by decide) (by kernel_rfl) (yields rfl (fun w' hS => ev_load 124 37 (.pointer (some ⟨F, 10, none⟩)) _ rfl (by kernel_rfl) (by simp [go_sem, (HL4.out w' hS).2.2.1]))) (HS4.out) ?_
        refine late_pure 4 (.int .i64 (k : Int)) rfl (by kernel_rfl) (by kernel_rfl) (by kernel_rfl) (fun _ _ _ h => h) (by decide) (yields rfl (fun _ _ => ev_move 9 _ rfl (by kernel_rfl))) (fun _ => HS4.out) ?_
        refine late_pure 5 (.pointer (some ⟨p, 0, none⟩)) rfl (by kernel_rfl) (by kernel_rfl) (by kernel_rfl) (fun _ _ _ h => h) (by decide) (yields rfl (fun _ _ => ev_move 0 _ rfl (by kernel_rfl))) (fun _ => HS4.out) ?_
        refine late_pure 6 (.pointer (some ⟨w.heap.size, 2, none⟩)) rfl (by kernel_rfl) (by kernel_rfl) (by kernel_rfl) (fun _ _ _ h => h) (by decide) (yields rfl (fun _ _ => ev_field 68 4 2 (.pointer (some ⟨w.heap.size, 0, none⟩)) _ rfl (by kernel_rfl) (by kernel_rfl))) (fun _ => HS4.out) ?_
        refine late_take 7 (.slice kpa kpn kpc) rfl (by kernel_rfl) (by kernel_rfl) (by kernel_rfl) (fun _ _ _ h => h) (waits_of (by kernel_rfl)) (by decide) (by kernel_rfl) (yields rfl (fun w' hS => ev_load 33 41 (.pointer (some ⟨w.heap.size, 2, none⟩)) _ rfl (by kernel_rfl) (by simp [go_sem, cell_at (o := 2) (HL4.out w' hS).1]))) (HS4.out) ?_
        refine late_take 8 (.agg #[.string mn, .slice pa 0 pc, .int .i64 rk, .string rc, .int .i64 lo, .int .i64 st, .slice (some ⟨cb, co, none⟩) n cc, .slice ha 0 hc]) rfl (by kernel_rfl) (by kernel_rfl) (by kernel_rfl) (fun _ _ _ h => h) (waits_of (by kernel_rfl)) (by decide) (by kernel_rfl) (yields rfl (fun w' hS => ev_load 64 5 (.pointer (some ⟨w.heap.size + 1, 0, none⟩)) _ rfl (by kernel_rfl) (load_row w' (w.heap.size + 1) 64 _ _ (HL4.out w' hS).2.1 Tryz.underlying64 rfl (by kernel_rfl)))) (HS4.out) ?_
        refine late_take 9 (.agg #[.int .i64 x.1, .int .i64 x.2]) rfl (by kernel_rfl) (by kernel_rfl) (by kernel_rfl) (fun _ _ _ h => h) (waits_of (by kernel_rfl)) (by decide) (by kernel_rfl) (yields rfl (fun w' hS => ev_load 26 10 (.pointer (some ⟨wr.heap.size, 0, none⟩)) _ rfl (by kernel_rfl) (load_row w' wr.heap.size 26 _ _ (HL4.out w' hS).2.2.2 Tryz.underlying26 rfl (by kernel_rfl)))) (HS4.out) ?_
        refine late_all [10] (by kernel_rfl) (by simp) (fun jj hjj => ?_)
        obtain rfl := one_of hjj
        refine late_call (f := 96) rfl rfl (by kernel_rfl) (R := fun v w' => ∃ ru, v = ruV ru ∧ RuAt w' ru (ruleP x.1) ∧ NewR W4 ru ∧ Fr no W4 w') (HCALL.out.mono (fun e w' ⟨ru, h1, h2, h3, h4⟩ => ⟨_, h1, ru, rfl, h2, h3, (Fr.refl no W4).drew.new h4 (fun _ _ f => f)⟩)) (fun v w5 hv => ?_)
        obtain ⟨⟨rnv, ⟨ta, tn, tc⟩, ⟨qa, qn, qc⟩⟩, rfl, ru5, nr5, f5⟩ := hv
        unfold ruV
        refine ⟨fun _ => f5, ?_⟩
        refine late_pure 11 (.pointer (some ⟨R, k * 3, none⟩)) rfl (by kernel_rfl) (by kernel_rfl) (by kernel_rfl) (fun _ _ _ h => h) (by decide) (yields rfl (fun _ _ => ev_index 124 38 39 (.slice (some ⟨R, 0, none⟩) n n) (.int .i64 (k : Int)) _ rfl (by kernel_rfl) (by kernel_rfl) (HIX.out _))) (fun _ => f5) ?_
        obtain ⟨cur, hcur, -, -, -, hcs, -⟩ := (HB.out.1.keep f5).cur
        obtain ⟨w6, r6, h6, F6⟩ := store_mid w5 R (k * 3) 166 166 cur #[.bool rnv, .slice ta tn tc, .slice qa qn qc] hcur (by rw [hcs]; show k * 3 + 3 ≤ n * 3; omega) (by kernel_rfl) (by kernel_rfl)
        refine late_all [12] (by kernel_rfl) (by simp) (fun jj hjj => ?_)
        obtain rfl := one_of hjj
        refine late_skip rfl rfl (ev_store 166 46 45 (.pointer (some ⟨R, k * 3, none⟩)) (.agg #[.bool rnv, .slice ta tn tc, .slice qa qn qc]) w6 rfl (by kernel_rfl) (by kernel_rfl) r6) ?_
        refine ⟨(fun h => Bool.noConfusion (show true = false from h)), ?_⟩
        refine late_done (by kernel_rfl) ?_
        obtain ⟨oR, hrl, hru, f34, G4, hx'⟩ := HB.out
        have hr3 := HR.out
        have s34 := f34.size
        have F5W : Fr (fun b => b = R) wr w5 := G4.trans f5 (fun _ _ e => e.elim) (fun _ _ e => e.elim)
        have F6W : Fr (fun b => b = R) wr w6 := F5W.trans F6 (fun _ _ e => e) (fun _ _ e => e)
        have F36 : Fr (fun b => b = R) W3 w6 := (f34.trans f5 (fun _ _ e => e) (fun _ _ e => e.elim)).trans F6 (fun _ _ e => e) (fun _ _ e => e)
        have HZ : Hid (OwnG elRu w6 (.slice (some ⟨R, 0, none⟩) n n) (rs.set k ⟨rnv, ⟨ta, tn, tc⟩, ⟨qa, qn, qc⟩⟩) ∧ (rs.set k ⟨rnv, ⟨ta, tn, tc⟩, ⟨qa, qn, qc⟩⟩).length = n ∧ (∀ (j : Nat) (s : Ru) (x : Int × Int), j < k + 1 → (rs.set k ⟨rnv, ⟨ta, tn, tc⟩, ⟨qa, qn, qc⟩⟩)[j]? = some s → cd[j]? = some x → RuAt w6 s (ruleP x.1) ∧ NewR W3 s) ∧ Fr (fun b => b = R) W3 w6) := by
          refine ⟨(oR.keep f5).puts okRu hcur (by omega) _ h6, by simp [hrl], fun j s y hj hs hy => ?_, F36⟩
          by_cases hjk : j = k
          · subst hjk
            rw [List.getElem?_set_self (by omega)] at hs
            simp only [Option.some.injEq] at hs
            subst hs
            rw [hx'] at hy
            simp only [Option.some.injEq] at hy
            subst hy
            refine ⟨ru5.keptP F6 (fun _ ad e => ?_) (fun _ ad e => ?_), fun ad e => ?_, fun ad e => ?_⟩
            · have := nr5.1 ad e
              show ¬ ad.block = R
              omega
            · have := nr5.2 ad e
              show ¬ ad.block = R
              omega
            · have := nr5.1 ad e
              omega
            · have := nr5.2 ad e
              omega
          · rw [List.getElem?_set_ne (by omega)] at hs
            obtain ⟨q1, q2⟩ := hru j s y (by omega) hs hy
            refine ⟨q1.keptP F6W (fun _ ad e => ?_) (fun _ ad e => ?_), q2⟩
            · have := q2.1 ad e
              show ¬ ad.block = R
              omega
            · have := q2.2 ad e
              show ¬ ad.block = R
              omega
        clear oR hrl hru f34 G4 hx' hr3 s34 F5W F6W F36 F6 h6 r6 hcs hcur f5 nr5 ru5 HCALL HB HIX HS4 HL4
        go_wp2_with fail
        go_roundw
        case rel => exact ⟨k + 1, _, by go_num, by omega, HZ.out⟩
        case measure => simp [intOf]; omega
      · have hkn' : k = n := by omega
        have hki : ¬ (k : Int) < (n : Int) := by omega
        have h0i : (0 : Int) < (n : Int) := by omega
        have hs1 := HS1.out
        have hlt3 := HLT.out
        have hr3 := HR.out
        have HL8 : Hid (∀ w', Fr no wr w' → w'.heap[w.heap.size]? = some (.cells #[.string kn, .string ks, .slice kpa kpn kpc, .slice kfa kfn kfc, .slice kma kmn kmc] 68 (0, 0)) ∧ w'.heap[w.heap.size + 1]? = some (.cells #[.string mn, .slice pa 0 pc, .int .i64 rk, .string rc, .int .i64 lo, .int .i64 st, .slice (some ⟨cb, co, none⟩) n cc, .slice ha 0 hc] 64 (0, 0)) ∧ w'.cell? ⟨F, 11, none⟩ = some (.slice (some ⟨S, 0, none⟩) n n) ∧ w'.cell? ⟨F, 12, none⟩ = some (.slice (some ⟨C, 0, none⟩) n n)) := fun w' hf => by
          obtain ⟨e1, e2, -⟩ := HL.out W3 HG.out
          exact ⟨hf.heap (fR.heap e1 (by omega)) (fun f => f), hf.heap (fR.heap e2 (by omega)) (fun f => f), hf.cell (fR.cell (cell_at (o := 11) HEF.out) hr3.2.1) (fun f => f), hf.cell (fR.cell (cell_at (o := 12) HEF.out) hr3.2.1) (fun f => f)⟩
        have HIX : Hid (∀ w' : World, (Instr.indexAt 51 (.slice (some ⟨S, 0, none⟩) n n) (.int .i64 0)).run Tryz.prog w' = .ok (.pointer (some ⟨S, 0, none⟩)) w' ∧ (Instr.indexAt 22 (.slice (some ⟨C, 0, none⟩) n n) (.int .i64 0)).run Tryz.prog w' = .ok (.pointer (some ⟨C, 0, none⟩)) w') := fun w' => ⟨by simp [go_sem, h0], by simp [go_sem, h0]⟩
        have HS8 : Hid (Fr no wr wr.drew) := (Fr.refl no wr).drew
        have HN0 : Hid (0 < n) := h0
        have HOS : Hid (OwnG elSa wr (.slice (some ⟨S, 0, none⟩) n n) (List.replicate n ⟨false, ⟨none, 0, 0⟩, ⟨none, 0, 0⟩, ⟨none, 0, 0⟩⟩) ∧ H.OwnG elB wr (.slice (some ⟨C, 0, none⟩) n n) (List.replicate n false)) := ⟨HO.out.2.1.kept fR (fun k hk e => by simp [Value.ownBlock] at hk; omega), HO.out.2.2.kept fR (fun k hk e => by simp [Value.ownBlock] at hk; omega)⟩
        have HB : Hid (_ ∧ _ ∧ _ ∧ _) := ⟨oR, hrl, hru, fR⟩
        have HCALL : Hid (Calls Tryz.prog 97 #[.string kn, .agg #[.string mn, .slice pa 0 pc, .int .i64 rk, .string rc, .int .i64 lo, .int .i64 st, .slice (some ⟨cb, co, none⟩) n cc, .slice ha 0 hc]] wr.drew fun e w' => ∃ s : Sa, e = .returned (saV s) ∧ s.r = true ∧ s.st = ⟨none, 0, 0⟩ ∧ s.lk = ⟨none, 0, 0⟩ ∧ OwnG elTy w' (.slice s.lo.a s.lo.n s.lo.c) (⟨4, kn⟩ :: ts) ∧ NewV wr.drew (.slice s.lo.a s.lo.n s.lo.c) ∧ Fr no wr.drew w') := entry_any wr.drew kn ⟨mn, ⟨pa, 0, pc⟩, ⟨rk, rc⟩, lo, st, ⟨some ⟨cb, co, none⟩, n, cc⟩, ⟨ha, 0, hc⟩⟩ rfl HP0.out ts HLO.out
        clear oR hrl hru fR hs1 hlt3 hr3 L63 hW1
        go_wp2_with fail
        refine late_begin (S := fun w' => Fr no wr w') (g := 13) (by kernel_rfl) ?_
        refine late_pure 0 (.pointer (some ⟨F, 0, none⟩)) rfl (by kernel_rfl) (by kernel_rfl) (by kernel_rfl) (fun _ _ _ h => h) (by decide) (yields rfl (fun _ _ => ev_move 8 _ rfl (by kernel_rfl))) (fun _ => HS8.out) ?_
        refine late_pure 1 (.pointer (some ⟨F, 0, none⟩)) rfl (by kernel_rfl) (by kernel_rfl) (by kernel_rfl) (fun _ _ _ h => h) (by decide) (yields rfl (fun _ _ => ev_nil 48 ⟨F, 0, none⟩ rfl (by kernel_rfl))) (fun _ => HS8.out) ?_
        refine late_pure 2 (.pointer (some ⟨F, 11, none⟩)) rfl (by kernel_rfl) (by kernel_rfl) (by kernel_rfl) (fun _ _ _ h => h) (by decide) (yields rfl (fun _ _ => ev_field 126 49 4 (.pointer (some ⟨F, 0, none⟩)) _ rfl (by kernel_rfl) (by kernel_rfl))) (fun _ => HS8.out) ?_
        refine late_take 3 (.slice (some ⟨S, 0, none⟩) n n) rfl (by kernel_rfl) (by kernel_rfl) (by kernel_rfl) (fun _ _ _ h => h) (waits_of (by kernel_rfl)) (by decide) (by kernel_rfl) (yields rfl (fun w' hS => ev_load 51 50 (.pointer (some ⟨F, 11, none⟩)) _ rfl (by kernel_rfl) (by simp [go_sem, (HL8.out w' hS).2.2.1]))) (HS8.out) ?_
        refine late_pure 4 (.pointer (some ⟨F, 0, none⟩)) rfl (by kernel_rfl) (by kernel_rfl) (by kernel_rfl) (fun _ _ _ h => h) (by decide) (yields rfl (fun _ _ => ev_move 8 _ rfl (by kernel_rfl))) (fun _ => HS8.out) ?_
        refine late_pure 5 (.pointer (some ⟨F, 0, none⟩)) rfl (by kernel_rfl) (by kernel_rfl) (by kernel_rfl) (fun _ _ _ h => h) (by decide) (yields rfl (fun _ _ => ev_nil 52 ⟨F, 0, none⟩ rfl (by kernel_rfl))) (fun _ => HS8.out) ?_
        refine late_pure 6 (.pointer (some ⟨F, 12, none⟩)) rfl (by kernel_rfl) (by kernel_rfl) (by kernel_rfl) (fun _ _ _ h => h) (by decide) (yields rfl (fun _ _ => ev_field 126 53 5 (.pointer (some ⟨F, 0, none⟩)) _ rfl (by kernel_rfl) (by kernel_rfl))) (fun _ => HS8.out) ?_
        refine late_take 7 (.slice (some ⟨C, 0, none⟩) n n) rfl (by kernel_rfl) (by kernel_rfl) (by kernel_rfl) (fun _ _ _ h => h) (waits_of (by kernel_rfl)) (by decide) (by kernel_rfl) (yields rfl (fun w' hS => ev_load 22 54 (.pointer (some ⟨F, 12, none⟩)) _ rfl (by kernel_rfl) (by simp [go_sem, (HL8.out w' hS).2.2.2]))) (HS8.out) ?_
        refine late_pure 8 (.pointer (some ⟨w.heap.size, 0, none⟩)) rfl (by kernel_rfl) (by kernel_rfl) (by kernel_rfl) (fun _ _ _ h => h) (by decide) (yields rfl (fun _ _ => ev_field 68 4 0 (.pointer (some ⟨w.heap.size, 0, none⟩)) _ rfl (by kernel_rfl) (by kernel_rfl))) (fun _ => HS8.out) ?_
        refine late_take 9 (.string kn) rfl (by kernel_rfl) (by kernel_rfl) (by kernel_rfl) (fun _ _ _ h => h) (waits_of (by kernel_rfl)) (by decide) (by kernel_rfl) (yields rfl (fun w' hS => ev_load 9 56 (.pointer (some ⟨w.heap.size, 0, none⟩)) _ rfl (by kernel_rfl) (by simp [go_sem, cell_at (o := 0) (HL8.out w' hS).1]))) (HS8.out) ?_
        refine late_take 10 (.agg #[.string mn, .slice pa 0 pc, .int .i64 rk, .string rc, .int .i64 lo, .int .i64 st, .slice (some ⟨cb, co, none⟩) n cc, .slice ha 0 hc]) rfl (by kernel_rfl) (by kernel_rfl) (by kernel_rfl) (fun _ _ _ h => h) (waits_of (by kernel_rfl)) (by decide) (by kernel_rfl) (yields rfl (fun w' hS => ev_load 64 5 (.pointer (some ⟨w.heap.size + 1, 0, none⟩)) _ rfl (by kernel_rfl) (load_row w' (w.heap.size + 1) 64 _ _ (HL8.out w' hS).2.1 Tryz.underlying64 rfl (by kernel_rfl)))) (HS8.out) ?_
        refine late_all [11] (by kernel_rfl) (by simp) (fun jj hjj => ?_)
        obtain rfl := one_of hjj
        refine late_call (f := 97) rfl rfl (by kernel_rfl) (R := fun v w' => ∃ s : Sa, v = saV s ∧ s.r = true ∧ s.st = ⟨none, 0, 0⟩ ∧ s.lk = ⟨none, 0, 0⟩ ∧ OwnG elTy w' (.slice s.lo.a s.lo.n s.lo.c) (⟨4, kn⟩ :: ts) ∧ NewV wr.drew (.slice s.lo.a s.lo.n s.lo.c) ∧ Fr no wr.drew w') (HCALL.out.mono (fun e w' ⟨s, h1, h2⟩ => ⟨_, h1, s, rfl, h2⟩)) (fun v w5 hv => ?_)
        obtain ⟨⟨sr, ⟨la, ln, lc⟩, ⟨sa, sn, sc⟩, ⟨ka, kn', kc⟩⟩, rfl, hsr, hsst, hslk, ol, nl, f5⟩ := hv
        simp only [Sv.mk.injEq] at hsr hsst hslk ol nl
        obtain ⟨rfl, rfl, rfl⟩ := hsst
        obtain ⟨rfl, rfl, rfl⟩ := hslk
        subst hsr
        unfold saV
        have g5 : Fr no wr w5 := (Fr.refl no wr).drew.new f5 (fun _ _ f => f)
        refine ⟨fun _ => g5, ?_⟩
        refine late_pure 12 (.pointer (some ⟨S, 0, none⟩)) rfl (by kernel_rfl) (by kernel_rfl) (by kernel_rfl) (fun _ _ _ h => h) (by decide) (yields rfl (fun _ _ => ev_index0 51 51 _ (.slice (some ⟨S, 0, none⟩) n n) _ rfl (by kernel_rfl) (HIX.out _).1)) (fun _ => g5) ?_
        obtain ⟨cur, hcur, -, -, -, hcs, -⟩ := (HOS.out.1.keep g5).cur
        obtain ⟨w6, r6, h6, F6⟩ := store_mid w5 S 0 58 58 cur #[.bool true, .slice la ln lc, .slice none 0 0, .slice none 0 0] hcur (by rw [hcs]; show 0 + 4 ≤ n * 4; omega) (by kernel_rfl) (by kernel_rfl)
        refine late_all [13] (by kernel_rfl) (by simp) (fun jj hjj => ?_)
        obtain rfl := one_of hjj
        refine late_skip rfl rfl (ev_store 58 60 59 (.pointer (some ⟨S, 0, none⟩)) (.agg #[.bool true, .slice la ln lc, .slice none 0 0, .slice none 0 0]) w6 rfl (by kernel_rfl) (by kernel_rfl) r6) ?_
        refine ⟨(fun h => Bool.noConfusion (show true = false from h)), ?_⟩
        refine late_pure 14 (.pointer (some ⟨C, 0, none⟩)) rfl (by kernel_rfl) (by kernel_rfl) (by kernel_rfl) (fun _ _ _ h => h) (by decide) (yields rfl (fun _ _ => ev_index0 22 55 _ (.slice (some ⟨C, 0, none⟩) n n) _ rfl (by kernel_rfl) (HIX.out _).2)) (fun h => Bool.noConfusion (show true = false from h)) ?_
        have oC6 : H.OwnG elB w6 (.slice (some ⟨C, 0, none⟩) n n) (List.replicate n false) := (HOS.out.2.keep g5).kept F6 (fun k hk e => by simp [Value.ownBlock] at hk; exact HR.out.2.2.2.2.2.2.1 (by omega))
        obtain ⟨curC, hcurC⟩ := oC6.tag (k := C) rfl
        have cC : ∃ v, w6.cell? ⟨C, 0, none⟩ = some v := oC6.has0 HN0.out
        obtain ⟨v0, cC⟩ := cC
        refine late_all [15] (by kernel_rfl) (by simp) (fun jj hjj => ?_)
        obtain rfl := one_of hjj
        refine late_skip rfl rfl (ev_storeC 4 61 (.bool true) (.pointer (some ⟨C, 0, none⟩)) (w6.setCell ⟨C, 0, none⟩ (.bool true)) rfl (by kernel_rfl) (by simp [go_sem, cC, frozen_at (o := 0) hcurC])) ?_
        refine ⟨(fun h => Bool.noConfusion (show true = false from h)), ?_⟩
        refine late_done (by kernel_rfl) ?_
        go_wp2_with fail
        go_ret
        obtain ⟨oR, hrl, hru, fR⟩ := HB.out
        have hs1 := HS1.out
        have hlt3 := HLT.out
        have hr3 := HR.out
        have s3r := fR.size
        have fw3 : Fr no w W3 := (HL.out W3 HG.out).2.2
        have F7 : Fr (fun b => b = C) w6 (w6.setCell ⟨C, 0, none⟩ (.bool true)) := (Fr.refl (fun b => b = C) w6).setCell (p := ⟨C, 0, none⟩) (fun _ => rfl) _
        have oC7 := oC6.set1 (i := 0) (by simp; exact h0) true
        have FE : Fr (fun b => b = S ∨ b = C) wr (w6.setCell ⟨C, 0, none⟩ (.bool true)) := (g5.trans F6 (U := fun b => b = S ∨ b = C) (fun _ _ e => e.elim) (fun _ _ e => .inl e)).trans F7 (fun _ _ e => e) (fun _ _ e => .inr e)
        refine ⟨F, by kernel_rfl, S, C, wr.heap.size, fun w9 ft => ?_, ?_, FE.size, ⟨by omega, hr3.2.2.1, hr3.2.2.2.1⟩, by have := HG.out.size; omega, ?_⟩
        · have FT : Fr (Tn S C wr.heap.size) wr w9 := FE.trans ft (fun i _ e => e.elim .inl (fun h => .inr (.inl h))) (fun _ _ e => e)
          have keep : ∀ {p : Addr} {u : Value}, wr.cell? p = some u → p.block ≠ S → p.block ≠ C → w9.cell? p = some u := fun h a b => FT.cell h (fun t => by
            have := lt_of_cell h
            rcases t with e | e | e
            · exact a e
            · exact b e
            · omega)
          have cF : ∀ (o : Nat) (u : Value), (#[.pointer (some ⟨hp, 0, none⟩), .string mn, .slice pa 0 pc, .int .i64 rk, .string rc, .int .i64 lo, .int .i64 st, .slice (some ⟨cb, co, none⟩) n cc, .slice ha 0 hc, .slice kpa kpn kpc, .slice (some ⟨R, 0, none⟩) n n, .slice (some ⟨S, 0, none⟩) n n, .slice (some ⟨C, 0, none⟩) n n] : Array Value)[o]? = some u → w9.cell? ⟨F, o, none⟩ = some u := fun o u h => keep (fR.cell ((cell_at HEF.out).trans h) hr3.2.1) hr3.2.2.1 hr3.2.2.2.1
          have c1 : ∀ {b o : Nat} {u : Value}, w.cell? ⟨b, o, none⟩ = some u → w9.cell? ⟨b, o, none⟩ = some u := fun h => by
            have hb : _ < w.heap.size := lt_of_cell h
            simp only at hb
            exact keep (fR.cell (fw3.cell h (fun f => f)) (fun e => by simp only at e; omega)) (fun e => by simp only at e; omega) (fun e => by simp only at e; omega)
          refine ⟨⟨_, cF 0 _ rfl, FitQ.keep (w := w) HFO.out ((fw3.new fR (fun i hi e => by omega)).new FT (fun i hi t => by rcases t with e | e | e <;> omega))⟩, cF 6 _ rfl, ⟨cb, co, cc, by rw [hcdl]; exact cF 7 _ rfl, by omega, fun i x hx => ⟨c1 (HIT.out i x hx).1, c1 (HIT.out i x hx).2⟩⟩, ⟨_, _, cF 8 _ rfl⟩, ⟨R, rs, by rw [hcdl]; exact cF 10 _ rfl, ?_, by omega, by simp, fun i s x hs hx => ?_⟩, by rw [hcdl]; exact cF 11 _ rfl, by rw [hcdl]; exact cF 12 _ rfl, fun j hj => c1 (tr j hj), by omega⟩
          · rw [hcdl]
            refine (oR.sl okRu).keptP FT (fun _ ad e t => ?_)
            simp only [Option.some.injEq] at e
            subst e
            rcases t with e | e | e
            · exact hr3.2.2.2.2.1 e
            · exact hr3.2.2.2.2.2.1 e
            · simp only at e
              omega
          · rw [List.getElem?_map] at hx
            obtain ⟨y, hy, rfl⟩ := Option.map_eq_some_iff.1 hx
            have hin : i < cd.length := (List.getElem?_eq_some_iff.1 hy).1
            obtain ⟨q1, q2⟩ := hru i s y (by omega) hs hy
            have q := q1.keptP FT (fun hl ad e t => by
              have a1 := q2.1 ad e
              have a2 := q1.tk.blt okTy hl ad e
              rcases t with e | e | e <;> omega) (fun hl ad e t => by
              have a1 := q2.2 ad e
              have a2 := q1.pt.blt okTy hl ad e
              rcases t with e | e | e <;> omega)
            exact ⟨q.nv, q.tk, q.pt, q.pc⟩
        · have FL0 : Fl wr S C wr.heap.size n (List.replicate n ⟨false, [], []⟩) (List.replicate n false) := by
            refine ⟨⟨_, HOS.out.1, by simp, fun i s x hs hx => ?_, fun i j s t x y hij hs ht hx hy hxr => ?_⟩, HOS.out.2, by simp, by simp, by omega⟩
            · obtain rfl := (List.mem_replicate.1 (List.mem_of_getElem? hs)).2
              obtain rfl := (List.mem_replicate.1 (List.mem_of_getElem? hx)).2
              exact ⟨rfl, fun e => absurd e (by decide), fun e => absurd e (by decide), fun e => absurd e (by decide), by decide⟩
            · obtain rfl := (List.mem_replicate.1 (List.mem_of_getElem? hx)).2
              exact absurd hxr (by decide)
          have cp : Copied wr.drew w5 ⟨true, ⟨none, 0, 0⟩, ⟨none, 0, 0⟩, ⟨none, 0, 0⟩⟩ ⟨true, ⟨la, ln, lc⟩, ⟨none, 0, 0⟩, ⟨none, 0, 0⟩⟩ (⟨4, kn⟩ :: ts) [] := ⟨rfl, rfl, ol, OwnG.nil _ _, nl, NewV.nil _, fun g hg e => by simp [Value.ownBlock] at e, f5⟩
          have FLn := (FL0.keep HS8.out).new (Nat.le_refl _) (at' := 0) h0 (y := ⟨true, (⟨4, kn⟩ :: ts), []⟩) rfl rfl ⟨by have := HLO.out.len; simp only [List.length_cons]; omega, by simp⟩ cp hcur h6 F6 F7 oC7
          obtain ⟨n', rfl⟩ : ∃ n', n = n' + 1 := ⟨n - 1, by omega⟩
          simpa [List.replicate_succ] using FLn
        · exact (fw3.new fR (fun i hi e => by omega)).new FE (fun i hi e => by omega)
  · refine late_all [1, 6, 8, 10] (by kernel_rfl) (by simp) (fun jj hjj => ?_)
    simp only [List.mem_cons, List.not_mem_nil, or_false] at hjj
    rcases hjj with rfl | rfl | rfl | rfl
    · refine late_call (f := 95) rfl rfl (by kernel_rfl) (R := fun v w' => v = .pointer (some ⟨hp, 0, none⟩) ∧ W1.drew = w') ((HH.out W1.drew HS0.out).mono (fun e w' ⟨h1, h2⟩ => ⟨_, h1, rfl, h2.symm⟩)) (fun v w1 hv => ?_)
      obtain ⟨rfl, rfl⟩ := hv
      refine ⟨fun _ => HS0.out, ?_⟩
      refine late_all [6, 8, 10] (by kernel_rfl) (by simp) (fun jj hjj => ?_)
      simp only [List.mem_cons, List.not_mem_nil, or_false] at hjj
      rcases hjj with rfl | rfl | rfl
      · refine late_op rfl rfl (ev_make 124 19 (.int .i64 (n : Int)) _ _ rfl (by kernel_rfl) (run_made okRu W1.drew n HN.out)) ?_
        have g2 : Fr no W1 (W1.drew.alloc (.cells (madeCells elRu.z.cells (n * elRu.n)) elRu.e)) := HS0.out.alloc _ _
        refine ⟨fun _ => g2, ?_⟩
        have o2 := own_row okRu W1.drew ⟨false, ⟨none, 0, 0⟩, ⟨none, 0, 0⟩⟩ rfl n HN.out
        have q2 : Fr no W1.drew (W1.drew.alloc (.cells (madeCells elRu.z.cells (n * elRu.n)) elRu.e)) := (Fr.refl no W1.drew).alloc _ _
        have l2 : W1.heap.size ≤ W1.drew.heap.size := HS0.out.size
        clear q2
        generalize W1.drew.alloc (.cells (madeCells elRu.z.cells (n * elRu.n)) elRu.e) = w2 at *
        generalize W1.drew.heap.size = b2 at *
        refine late_all [8, 10] (by kernel_rfl) (by simp) (fun jj hjj => ?_)
        simp only [List.mem_cons, List.not_mem_nil, or_false] at hjj
        rcases hjj with rfl | rfl
        · refine late_op rfl rfl (ev_make 51 21 (.int .i64 (n : Int)) _ _ rfl (by kernel_rfl) (run_made okSa w2 n HN.out)) ?_
          have g3 : Fr no W1 (w2.alloc (.cells (madeCells elSa.z.cells (n * elSa.n)) elSa.e)) := g2.alloc _ _
          refine ⟨fun _ => g3, ?_⟩
          have o3 := own_row okSa w2 ⟨false, ⟨none, 0, 0⟩, ⟨none, 0, 0⟩, ⟨none, 0, 0⟩⟩ rfl n HN.out
          have q3 : Fr no w2 (w2.alloc (.cells (madeCells elSa.z.cells (n * elSa.n)) elSa.e)) := (Fr.refl no w2).alloc _ _
          have l3 : W1.heap.size ≤ w2.heap.size := g2.size
          have o3x6 := o2.keep q3
          clear q3
          generalize w2.alloc (.cells (madeCells elSa.z.cells (n * elSa.n)) elSa.e) = w3 at *
          generalize w2.heap.size = b3 at *
          refine late_all [10] (by kernel_rfl) (by simp) (fun jj hjj => ?_)
          obtain rfl := one_of hjj
          refine late_op rfl rfl (ev_make 22 23 (.int .i64 (n : Int)) _ _ rfl (by kernel_rfl) (run_madeH elB_ok w3 n HN.out)) ?_
          have g4 : Fr no W1 (w3.alloc (.cells (madeCells elB.z.cells (n * 1)) elB.e)) := g3.alloc _ _
          refine ⟨fun _ => g4, ?_⟩
          have o4 := own_rowH elB_ok w3 false rfl n HN.out
          have q4 : Fr no w3 (w3.alloc (.cells (madeCells elB.z.cells (n * 1)) elB.e)) := (Fr.refl no w3).alloc _ _
          have l4 : W1.heap.size ≤ w3.heap.size := g3.size
          have o4x8 := o3.keep q4
          have o4x6 := o3x6.keep q4
          clear q4
          generalize w3.alloc (.cells (madeCells elB.z.cells (n * 1)) elB.e) = w4 at *
          generalize w3.heap.size = b4 at *
          exact late_at (by kernel_rfl) (by kernel_rfl) (CONT (b2, b3, b4) w4 ⟨o4x6, o4x8, o4, ⟨l2, l3, l4⟩, g4⟩)
        · refine late_op rfl rfl (ev_make 22 23 (.int .i64 (n : Int)) _ _ rfl (by kernel_rfl) (run_madeH elB_ok w2 n HN.out)) ?_
          have g5 : Fr no W1 (w2.alloc (.cells (madeCells elB.z.cells (n * 1)) elB.e)) := g2.alloc _ _
          refine ⟨fun _ => g5, ?_⟩
          have o5 := own_rowH elB_ok w2 false rfl n HN.out
          have q5 : Fr no w2 (w2.alloc (.cells (madeCells elB.z.cells (n * 1)) elB.e)) := (Fr.refl no w2).alloc _ _
          have l5 : W1.heap.size ≤ w2.heap.size := g2.size
          have o5x6 := o2.keep q5
          clear q5
          generalize w2.alloc (.cells (madeCells elB.z.cells (n * 1)) elB.e) = w5 at *
          generalize w2.heap.size = b5 at *
          refine late_all [8] (by kernel_rfl) (by simp) (fun jj hjj => ?_)
          obtain rfl := one_of hjj
          refine late_op rfl rfl (ev_make 51 21 (.int .i64 (n : Int)) _ _ rfl (by kernel_rfl) (run_made okSa w5 n HN.out)) ?_
          have g6 : Fr no W1 (w5.alloc (.cells (madeCells elSa.z.cells (n * elSa.n)) elSa.e)) := g5.alloc _ _
          refine ⟨fun _ => g6, ?_⟩
          have o6 := own_row okSa w5 ⟨false, ⟨none, 0, 0⟩, ⟨none, 0, 0⟩, ⟨none, 0, 0⟩⟩ rfl n HN.out
          have q6 : Fr no w5 (w5.alloc (.cells (madeCells elSa.z.cells (n * elSa.n)) elSa.e)) := (Fr.refl no w5).alloc _ _
          have l6 : W1.heap.size ≤ w5.heap.size := g5.size
          have o6x10 := o5.keep q6
          have o6x6 := o5x6.keep q6
          clear q6
          generalize w5.alloc (.cells (madeCells elSa.z.cells (n * elSa.n)) elSa.e) = w6 at *
          generalize w5.heap.size = b6 at *
          exact late_at (by kernel_rfl) (by kernel_rfl) (CONT (b2, b6, b5) w6 ⟨o6x6, o6, o6x10, ⟨l2, l6, l5⟩, g6⟩)
      · refine late_op rfl rfl (ev_make 51 21 (.int .i64 (n : Int)) _ _ rfl (by kernel_rfl) (run_made okSa W1.drew n HN.out)) ?_
        have g7 : Fr no W1 (W1.drew.alloc (.cells (madeCells elSa.z.cells (n * elSa.n)) elSa.e)) := HS0.out.alloc _ _
        refine ⟨fun _ => g7, ?_⟩
        have o7 := own_row okSa W1.drew ⟨false, ⟨none, 0, 0⟩, ⟨none, 0, 0⟩, ⟨none, 0, 0⟩⟩ rfl n HN.out
        have q7 : Fr no W1.drew (W1.drew.alloc (.cells (madeCells elSa.z.cells (n * elSa.n)) elSa.e)) := (Fr.refl no W1.drew).alloc _ _
        have l7 : W1.heap.size ≤ W1.drew.heap.size := HS0.out.size
        clear q7
        generalize W1.drew.alloc (.cells (madeCells elSa.z.cells (n * elSa.n)) elSa.e) = w7 at *
        generalize W1.drew.heap.size = b7 at *
        refine late_all [6, 10] (by kernel_rfl) (by simp) (fun jj hjj => ?_)
        simp only [List.mem_cons, List.not_mem_nil, or_false] at hjj
        rcases hjj with rfl | rfl
        · refine late_op rfl rfl (ev_make 124 19 (.int .i64 (n : Int)) _ _ rfl (by kernel_rfl) (run_made okRu w7 n HN.out)) ?_
          have g8 : Fr no W1 (w7.alloc (.cells (madeCells elRu.z.cells (n * elRu.n)) elRu.e)) := g7.alloc _ _
          refine ⟨fun _ => g8, ?_⟩
          have o8 := own_row okRu w7 ⟨false, ⟨none, 0, 0⟩, ⟨none, 0, 0⟩⟩ rfl n HN.out
          have q8 : Fr no w7 (w7.alloc (.cells (madeCells elRu.z.cells (n * elRu.n)) elRu.e)) := (Fr.refl no w7).alloc _ _
          have l8 : W1.heap.size ≤ w7.heap.size := g7.size
          have o8x8 := o7.keep q8
          clear q8
          generalize w7.alloc (.cells (madeCells elRu.z.cells (n * elRu.n)) elRu.e) = w8 at *
          generalize w7.heap.size = b8 at *
          refine late_all [10] (by kernel_rfl) (by simp) (fun jj hjj => ?_)
          obtain rfl := one_of hjj
          refine late_op rfl rfl (ev_make 22 23 (.int .i64 (n : Int)) _ _ rfl (by kernel_rfl) (run_madeH elB_ok w8 n HN.out)) ?_
          have g9 : Fr no W1 (w8.alloc (.cells (madeCells elB.z.cells (n * 1)) elB.e)) := g8.alloc _ _
          refine ⟨fun _ => g9, ?_⟩
          have o9 := own_rowH elB_ok w8 false rfl n HN.out
          have q9 : Fr no w8 (w8.alloc (.cells (madeCells elB.z.cells (n * 1)) elB.e)) := (Fr.refl no w8).alloc _ _
          have l9 : W1.heap.size ≤ w8.heap.size := g8.size
          have o9x6 := o8.keep q9
          have o9x8 := o8x8.keep q9
          clear q9
          generalize w8.alloc (.cells (madeCells elB.z.cells (n * 1)) elB.e) = w9 at *
          generalize w8.heap.size = b9 at *
          exact late_at (by kernel_rfl) (by kernel_rfl) (CONT (b8, b7, b9) w9 ⟨o9x6, o9x8, o9, ⟨l8, l7, l9⟩, g9⟩)
        · refine late_op rfl rfl (ev_make 22 23 (.int .i64 (n : Int)) _ _ rfl (by kernel_rfl) (run_madeH elB_ok w7 n HN.out)) ?_
          have g10 : Fr no W1 (w7.alloc (.cells (madeCells elB.z.cells (n * 1)) elB.e)) := g7.alloc _ _
          refine ⟨fun _ => g10, ?_⟩
          have o10 := own_rowH elB_ok w7 false rfl n HN.out
          have q10 : Fr no w7 (w7.alloc (.cells (madeCells elB.z.cells (n * 1)) elB.e)) := (Fr.refl no w7).alloc _ _
          have l10 : W1.heap.size ≤ w7.heap.size := g7.size
          have o10x8 := o7.keep q10
          clear q10
          generalize w7.alloc (.cells (madeCells elB.z.cells (n * 1)) elB.e) = w10 at *
          generalize w7.heap.size = b10 at *
          refine late_all [6] (by kernel_rfl) (by simp) (fun jj hjj => ?_)
          obtain rfl := one_of hjj
          refine late_op rfl rfl (ev_make 124 19 (.int .i64 (n : Int)) _ _ rfl (by kernel_rfl) (run_made okRu w10 n HN.out)) ?_
          have g11 : Fr no W1 (w10.alloc (.cells (madeCells elRu.z.cells (n * elRu.n)) elRu.e)) := g10.alloc _ _
          refine ⟨fun _ => g11, ?_⟩
          have o11 := own_row okRu w10 ⟨false, ⟨none, 0, 0⟩, ⟨none, 0, 0⟩⟩ rfl n HN.out
          have q11 : Fr no w10 (w10.alloc (.cells (madeCells elRu.z.cells (n * elRu.n)) elRu.e)) := (Fr.refl no w10).alloc _ _
          have l11 : W1.heap.size ≤ w10.heap.size := g10.size
          have o11x10 := o10.keep q11
          have o11x8 := o10x8.keep q11
          clear q11
          generalize w10.alloc (.cells (madeCells elRu.z.cells (n * elRu.n)) elRu.e) = w11 at *
          generalize w10.heap.size = b11 at *
          exact late_at (by kernel_rfl) (by kernel_rfl) (CONT (b11, b7, b10) w11 ⟨o11, o11x8, o11x10, ⟨l11, l7, l10⟩, g11⟩)
      · refine late_op rfl rfl (ev_make 22 23 (.int .i64 (n : Int)) _ _ rfl (by kernel_rfl) (run_madeH elB_ok W1.drew n HN.out)) ?_
        have g12 : Fr no W1 (W1.drew.alloc (.cells (madeCells elB.z.cells (n * 1)) elB.e)) := HS0.out.alloc _ _
        refine ⟨fun _ => g12, ?_⟩
        have o12 := own_rowH elB_ok W1.drew false rfl n HN.out
        have q12 : Fr no W1.drew (W1.drew.alloc (.cells (madeCells elB.z.cells (n * 1)) elB.e)) := (Fr.refl no W1.drew).alloc _ _
        have l12 : W1.heap.size ≤ W1.drew.heap.size := HS0.out.size
        clear q12
        generalize W1.drew.alloc (.cells (madeCells elB.z.cells (n * 1)) elB.e) = w12 at *
        generalize W1.drew.heap.size = b12 at *
        refine late_all [6, 8] (by kernel_rfl) (by simp) (fun jj hjj => ?_)
        simp only [List.mem_cons, List.not_mem_nil, or_false] at hjj
        rcases hjj with rfl | rfl
        · refine late_op rfl rfl (ev_make 124 19 (.int .i64 (n : Int)) _ _ rfl (by kernel_rfl) (run_made okRu w12 n HN.out)) ?_
          have g13 : Fr no W1 (w12.alloc (.cells (madeCells elRu.z.cells (n * elRu.n)) elRu.e)) := g12.alloc _ _
          refine ⟨fun _ => g13, ?_⟩
          have o13 := own_row okRu w12 ⟨false, ⟨none, 0, 0⟩, ⟨none, 0, 0⟩⟩ rfl n HN.out
          have q13 : Fr no w12 (w12.alloc (.cells (madeCells elRu.z.cells (n * elRu.n)) elRu.e)) := (Fr.refl no w12).alloc _ _
          have l13 : W1.heap.size ≤ w12.heap.size := g12.size
          have o13x10 := o12.keep q13
          clear q13
          generalize w12.alloc (.cells (madeCells elRu.z.cells (n * elRu.n)) elRu.e) = w13 at *
          generalize w12.heap.size = b13 at *
          refine late_all [8] (by kernel_rfl) (by simp) (fun jj hjj => ?_)
          obtain rfl := one_of hjj
          refine late_op rfl rfl (ev_make 51 21 (.int .i64 (n : Int)) _ _ rfl (by kernel_rfl) (run_made okSa w13 n HN.out)) ?_
          have g14 : Fr no W1 (w13.alloc (.cells (madeCells elSa.z.cells (n * elSa.n)) elSa.e)) := g13.alloc _ _
          refine ⟨fun _ => g14, ?_⟩
          have o14 := own_row okSa w13 ⟨false, ⟨none, 0, 0⟩, ⟨none, 0, 0⟩, ⟨none, 0, 0⟩⟩ rfl n HN.out
          have q14 : Fr no w13 (w13.alloc (.cells (madeCells elSa.z.cells (n * elSa.n)) elSa.e)) := (Fr.refl no w13).alloc _ _
          have l14 : W1.heap.size ≤ w13.heap.size := g13.size
          have o14x6 := o13.keep q14
          have o14x10 := o13x10.keep q14
          clear q14
          generalize w13.alloc (.cells (madeCells elSa.z.cells (n * elSa.n)) elSa.e) = w14 at *
          generalize w13.heap.size = b14 at *
          exact late_at (by kernel_rfl) (by kernel_rfl) (CONT (b13, b14, b12) w14 ⟨o14x6, o14, o14x10, ⟨l13, l14, l12⟩, g14⟩)
        · refine late_op rfl rfl (ev_make 51 21 (.int .i64 (n : Int)) _ _ rfl (by kernel_rfl) (run_made okSa w12 n HN.out)) ?_
          have g15 : Fr no W1 (w12.alloc (.cells (madeCells elSa.z.cells (n * elSa.n)) elSa.e)) := g12.alloc _ _
          refine ⟨fun _ => g15, ?_⟩
          have o15 := own_row okSa w12 ⟨false, ⟨none, 0, 0⟩, ⟨none, 0, 0⟩, ⟨none, 0, 0⟩⟩ rfl n HN.out
          have q15 : Fr no w12 (w12.alloc (.cells (madeCells elSa.z.cells (n * elSa.n)) elSa.e)) := (Fr.refl no w12).alloc _ _
          have l15 : W1.heap.size ≤ w12.heap.size := g12.size
          have o15x10 := o12.keep q15
          clear q15
          generalize w12.alloc (.cells (madeCells elSa.z.cells (n * elSa.n)) elSa.e) = w15 at *
          generalize w12.heap.size = b15 at *
          refine late_all [6] (by kernel_rfl) (by simp) (fun jj hjj => ?_)
          obtain rfl := one_of hjj
          refine late_op rfl rfl (ev_make 124 19 (.int .i64 (n : Int)) _ _ rfl (by kernel_rfl) (run_made okRu w15 n HN.out)) ?_
          have g16 : Fr no W1 (w15.alloc (.cells (madeCells elRu.z.cells (n * elRu.n)) elRu.e)) := g15.alloc _ _
          refine ⟨fun _ => g16, ?_⟩
          have o16 := own_row okRu w15 ⟨false, ⟨none, 0, 0⟩, ⟨none, 0, 0⟩⟩ rfl n HN.out
          have q16 : Fr no w15 (w15.alloc (.cells (madeCells elRu.z.cells (n * elRu.n)) elRu.e)) := (Fr.refl no w15).alloc _ _
          have l16 : W1.heap.size ≤ w15.heap.size := g15.size
          have o16x8 := o15.keep q16
          have o16x10 := o15x10.keep q16
          clear q16
          generalize w15.alloc (.cells (madeCells elRu.z.cells (n * elRu.n)) elRu.e) = w16 at *
          generalize w15.heap.size = b16 at *
          exact late_at (by kernel_rfl) (by kernel_rfl) (CONT (b16, b15, b12) w16 ⟨o16, o16x8, o16x10, ⟨l16, l15, l12⟩, g16⟩)
    · refine late_op rfl rfl (ev_make 124 19 (.int .i64 (n : Int)) _ _ rfl (by kernel_rfl) (run_made okRu W1.drew n HN.out)) ?_
      have g17 : Fr no W1 (W1.drew.alloc (.cells (madeCells elRu.z.cells (n * elRu.n)) elRu.e)) := HS0.out.alloc _ _
      refine ⟨fun _ => g17, ?_⟩
      have o17 := own_row okRu W1.drew ⟨false, ⟨none, 0, 0⟩, ⟨none, 0, 0⟩⟩ rfl n HN.out
      have q17 : Fr no W1.drew (W1.drew.alloc (.cells (madeCells elRu.z.cells (n * elRu.n)) elRu.e)) := (Fr.refl no W1.drew).alloc _ _
      have l17 : W1.heap.size ≤ W1.drew.heap.size := HS0.out.size
      clear q17
      generalize W1.drew.alloc (.cells (madeCells elRu.z.cells (n * elRu.n)) elRu.e) = w17 at *
      generalize W1.drew.heap.size = b17 at *
      refine late_all [1, 8, 10] (by kernel_rfl) (by simp) (fun jj hjj => ?_)
      simp only [List.mem_cons, List.not_mem_nil, or_false] at hjj
      rcases hjj with rfl | rfl | rfl
      · refine late_call (f := 95) rfl rfl (by kernel_rfl) (R := fun v w' => v = .pointer (some ⟨hp, 0, none⟩) ∧ w17 = w') ((HH.out w17 g17).mono (fun e w' ⟨h1, h2⟩ => ⟨_, h1, rfl, h2.symm⟩)) (fun v w18 hv => ?_)
        obtain ⟨rfl, rfl⟩ := hv
        refine ⟨fun _ => g17, ?_⟩
        refine late_all [8, 10] (by kernel_rfl) (by simp) (fun jj hjj => ?_)
        simp only [List.mem_cons, List.not_mem_nil, or_false] at hjj
        rcases hjj with rfl | rfl
        · refine late_op rfl rfl (ev_make 51 21 (.int .i64 (n : Int)) _ _ rfl (by kernel_rfl) (run_made okSa w17 n HN.out)) ?_
          have g19 : Fr no W1 (w17.alloc (.cells (madeCells elSa.z.cells (n * elSa.n)) elSa.e)) := g17.alloc _ _
          refine ⟨fun _ => g19, ?_⟩
          have o19 := own_row okSa w17 ⟨false, ⟨none, 0, 0⟩, ⟨none, 0, 0⟩, ⟨none, 0, 0⟩⟩ rfl n HN.out
          have q19 : Fr no w17 (w17.alloc (.cells (madeCells elSa.z.cells (n * elSa.n)) elSa.e)) := (Fr.refl no w17).alloc _ _
          have l19 : W1.heap.size ≤ w17.heap.size := g17.size
          have o19x6 := o17.keep q19
          clear q19
          generalize w17.alloc (.cells (madeCells elSa.z.cells (n * elSa.n)) elSa.e) = w19 at *
          generalize w17.heap.size = b19 at *
          refine late_all [10] (by kernel_rfl) (by simp) (fun jj hjj => ?_)
          obtain rfl := one_of hjj
          refine late_op rfl rfl (ev_make 22 23 (.int .i64 (n : Int)) _ _ rfl (by kernel_rfl) (run_madeH elB_ok w19 n HN.out)) ?_
          have g20 : Fr no W1 (w19.alloc (.cells (madeCells elB.z.cells (n * 1)) elB.e)) := g19.alloc _ _
          refine ⟨fun _ => g20, ?_⟩
          have o20 := own_rowH elB_ok w19 false rfl n HN.out
          have q20 : Fr no w19 (w19.alloc (.cells (madeCells elB.z.cells (n * 1)) elB.e)) := (Fr.refl no w19).alloc _ _
          have l20 : W1.heap.size ≤ w19.heap.size := g19.size
          have o20x8 := o19.keep q20
          have o20x6 := o19x6.keep q20
          clear q20
          generalize w19.alloc (.cells (madeCells elB.z.cells (n * 1)) elB.e) = w20 at *
          generalize w19.heap.size = b20 at *
          exact late_at (by kernel_rfl) (by kernel_rfl) (CONT (b17, b19, b20) w20 ⟨o20x6, o20x8, o20, ⟨l17, l19, l20⟩, g20⟩)
        · refine late_op rfl rfl (ev_make 22 23 (.int .i64 (n : Int)) _ _ rfl (by kernel_rfl) (run_madeH elB_ok w17 n HN.out)) ?_
          have g21 : Fr no W1 (w17.alloc (.cells (madeCells elB.z.cells (n * 1)) elB.e)) := g17.alloc _ _
          refine ⟨fun _ => g21, ?_⟩
          have o21 := own_rowH elB_ok w17 false rfl n HN.out
          have q21 : Fr no w17 (w17.alloc (.cells (madeCells elB.z.cells (n * 1)) elB.e)) := (Fr.refl no w17).alloc _ _
          have l21 : W1.heap.size ≤ w17.heap.size := g17.size
          have o21x6 := o17.keep q21
          clear q21
          generalize w17.alloc (.cells (madeCells elB.z.cells (n * 1)) elB.e) = w21 at *
          generalize w17.heap.size = b21 at *
          refine late_all [8] (by kernel_rfl) (by simp) (fun jj hjj => ?_)
          obtain rfl := one_of hjj
          refine late_op rfl rfl (ev_make 51 21 (.int .i64 (n : Int)) _ _ rfl (by kernel_rfl) (run_made okSa w21 n HN.out)) ?_
          have g22 : Fr no W1 (w21.alloc (.cells (madeCells elSa.z.cells (n * elSa.n)) elSa.e)) := g21.alloc _ _
          refine ⟨fun _ => g22, ?_⟩
          have o22 := own_row okSa w21 ⟨false, ⟨none, 0, 0⟩, ⟨none, 0, 0⟩, ⟨none, 0, 0⟩⟩ rfl n HN.out
          have q22 : Fr no w21 (w21.alloc (.cells (madeCells elSa.z.cells (n * elSa.n)) elSa.e)) := (Fr.refl no w21).alloc _ _
          have l22 : W1.heap.size ≤ w21.heap.size := g21.size
          have o22x10 := o21.keep q22
          have o22x6 := o21x6.keep q22
          clear q22
          generalize w21.alloc (.cells (madeCells elSa.z.cells (n * elSa.n)) elSa.e) = w22 at *
          generalize w21.heap.size = b22 at *
          exact late_at (by kernel_rfl) (by kernel_rfl) (CONT (b17, b22, b21) w22 ⟨o22x6, o22, o22x10, ⟨l17, l22, l21⟩, g22⟩)
      · refine late_op rfl rfl (ev_make 51 21 (.int .i64 (n : Int)) _ _ rfl (by kernel_rfl) (run_made okSa w17 n HN.out)) ?_
        have g23 : Fr no W1 (w17.alloc (.cells (madeCells elSa.z.cells (n * elSa.n)) elSa.e)) := g17.alloc _ _
        refine ⟨fun _ => g23, ?_⟩
        have o23 := own_row okSa w17 ⟨false, ⟨none, 0, 0⟩, ⟨none, 0, 0⟩, ⟨none, 0, 0⟩⟩ rfl n HN.out
        have q23 : Fr no w17 (w17.alloc (.cells (madeCells elSa.z.cells (n * elSa.n)) elSa.e)) := (Fr.refl no w17).alloc _ _
        have l23 : W1.heap.size ≤ w17.heap.size := g17.size
        have o23x6 := o17.keep q23
        clear q23
        generalize w17.alloc (.cells (madeCells elSa.z.cells (n * elSa.n)) elSa.e) = w23 at *
        generalize w17.heap.size = b23 at *
        refine late_all [1, 10] (by kernel_rfl) (by simp) (fun jj hjj => ?_)
        simp only [List.mem_cons, List.not_mem_nil, or_false] at hjj
        rcases hjj with rfl | rfl
        · refine late_call (f := 95) rfl rfl (by kernel_rfl) (R := fun v w' => v = .pointer (some ⟨hp, 0, none⟩) ∧ w23 = w') ((HH.out w23 g23).mono (fun e w' ⟨h1, h2⟩ => ⟨_, h1, rfl, h2.symm⟩)) (fun v w24 hv => ?_)
          obtain ⟨rfl, rfl⟩ := hv
          refine ⟨fun _ => g23, ?_⟩
          refine late_all [10] (by kernel_rfl) (by simp) (fun jj hjj => ?_)
          obtain rfl := one_of hjj
          refine late_op rfl rfl (ev_make 22 23 (.int .i64 (n : Int)) _ _ rfl (by kernel_rfl) (run_madeH elB_ok w23 n HN.out)) ?_
          have g25 : Fr no W1 (w23.alloc (.cells (madeCells elB.z.cells (n * 1)) elB.e)) := g23.alloc _ _
          refine ⟨fun _ => g25, ?_⟩
          have o25 := own_rowH elB_ok w23 false rfl n HN.out
          have q25 : Fr no w23 (w23.alloc (.cells (madeCells elB.z.cells (n * 1)) elB.e)) := (Fr.refl no w23).alloc _ _
          have l25 : W1.heap.size ≤ w23.heap.size := g23.size
          have o25x8 := o23.keep q25
          have o25x6 := o23x6.keep q25
          clear q25
          generalize w23.alloc (.cells (madeCells elB.z.cells (n * 1)) elB.e) = w25 at *
          generalize w23.heap.size = b25 at *
          exact late_at (by kernel_rfl) (by kernel_rfl) (CONT (b17, b23, b25) w25 ⟨o25x6, o25x8, o25, ⟨l17, l23, l25⟩, g25⟩)
        · refine late_op rfl rfl (ev_make 22 23 (.int .i64 (n : Int)) _ _ rfl (by kernel_rfl) (run_madeH elB_ok w23 n HN.out)) ?_
          have g26 : Fr no W1 (w23.alloc (.cells (madeCells elB.z.cells (n * 1)) elB.e)) := g23.alloc _ _
          refine ⟨fun _ => g26, ?_⟩
          have o26 := own_rowH elB_ok w23 false rfl n HN.out
          have q26 : Fr no w23 (w23.alloc (.cells (madeCells elB.z.cells (n * 1)) elB.e)) := (Fr.refl no w23).alloc _ _
          have l26 : W1.heap.size ≤ w23.heap.size := g23.size
          have o26x8 := o23.keep q26
          have o26x6 := o23x6.keep q26
          clear q26
          generalize w23.alloc (.cells (madeCells elB.z.cells (n * 1)) elB.e) = w26 at *
          generalize w23.heap.size = b26 at *
          refine late_all [1] (by kernel_rfl) (by simp) (fun jj hjj => ?_)
          obtain rfl := one_of hjj
          refine late_call (f := 95) rfl rfl (by kernel_rfl) (R := fun v w' => v = .pointer (some ⟨hp, 0, none⟩) ∧ w26 = w') ((HH.out w26 g26).mono (fun e w' ⟨h1, h2⟩ => ⟨_, h1, rfl, h2.symm⟩)) (fun v w27 hv => ?_)
          obtain ⟨rfl, rfl⟩ := hv
          refine ⟨fun _ => g26, ?_⟩
          exact late_at (by kernel_rfl) (by kernel_rfl) (CONT (b17, b23, b26) w26 ⟨o26x6, o26x8, o26, ⟨l17, l23, l26⟩, g26⟩)
      · refine late_op rfl rfl (ev_make 22 23 (.int .i64 (n : Int)) _ _ rfl (by kernel_rfl) (run_madeH elB_ok w17 n HN.out)) ?_
        have g28 : Fr no W1 (w17.alloc (.cells (madeCells elB.z.cells (n * 1)) elB.e)) := g17.alloc _ _
        refine ⟨fun _ => g28, ?_⟩
        have o28 := own_rowH elB_ok w17 false rfl n HN.out
        have q28 : Fr no w17 (w17.alloc (.cells (madeCells elB.z.cells (n * 1)) elB.e)) := (Fr.refl no w17).alloc _ _
        have l28 : W1.heap.size ≤ w17.heap.size := g17.size
        have o28x6 := o17.keep q28
        clear q28
        generalize w17.alloc (.cells (madeCells elB.z.cells (n * 1)) elB.e) = w28 at *
        generalize w17.heap.size = b28 at *
        refine late_all [1, 8] (by kernel_rfl) (by simp) (fun jj hjj => ?_)
        simp only [List.mem_cons, List.not_mem_nil, or_false] at hjj
        rcases hjj with rfl | rfl
        · refine late_call (f := 95) rfl rfl (by kernel_rfl) (R := fun v w' => v = .pointer (some ⟨hp, 0, none⟩) ∧ w28 = w') ((HH.out w28 g28).mono (fun e w' ⟨h1, h2⟩ => ⟨_, h1, rfl, h2.symm⟩)) (fun v w29 hv => ?_)
          obtain ⟨rfl, rfl⟩ := hv
          refine ⟨fun _ => g28, ?_⟩
          refine late_all [8] (by kernel_rfl) (by simp) (fun jj hjj => ?_)
          obtain rfl := one_of hjj
          refine late_op rfl rfl (ev_make 51 21 (.int .i64 (n : Int)) _ _ rfl (by kernel_rfl) (run_made okSa w28 n HN.out)) ?_
          have g30 : Fr no W1 (w28.alloc (.cells (madeCells elSa.z.cells (n * elSa.n)) elSa.e)) := g28.alloc _ _
          refine ⟨fun _ => g30, ?_⟩
          have o30 := own_row okSa w28 ⟨false, ⟨none, 0, 0⟩, ⟨none, 0, 0⟩, ⟨none, 0, 0⟩⟩ rfl n HN.out
          have q30 : Fr no w28 (w28.alloc (.cells (madeCells elSa.z.cells (n * elSa.n)) elSa.e)) := (Fr.refl no w28).alloc _ _
          have l30 : W1.heap.size ≤ w28.heap.size := g28.size
          have o30x10 := o28.keep q30
          have o30x6 := o28x6.keep q30
          clear q30
          generalize w28.alloc (.cells (madeCells elSa.z.cells (n * elSa.n)) elSa.e) = w30 at *
          generalize w28.heap.size = b30 at *
          exact late_at (by kernel_rfl) (by kernel_rfl) (CONT (b17, b30, b28) w30 ⟨o30x6, o30, o30x10, ⟨l17, l30, l28⟩, g30⟩)
        · refine late_op rfl rfl (ev_make 51 21 (.int .i64 (n : Int)) _ _ rfl (by kernel_rfl) (run_made okSa w28 n HN.out)) ?_
          have g31 : Fr no W1 (w28.alloc (.cells (madeCells elSa.z.cells (n * elSa.n)) elSa.e)) := g28.alloc _ _
          refine ⟨fun _ => g31, ?_⟩
          have o31 := own_row okSa w28 ⟨false, ⟨none, 0, 0⟩, ⟨none, 0, 0⟩, ⟨none, 0, 0⟩⟩ rfl n HN.out
          have q31 : Fr no w28 (w28.alloc (.cells (madeCells elSa.z.cells (n * elSa.n)) elSa.e)) := (Fr.refl no w28).alloc _ _
          have l31 : W1.heap.size ≤ w28.heap.size := g28.size
          have o31x10 := o28.keep q31
          have o31x6 := o28x6.keep q31
          clear q31
          generalize w28.alloc (.cells (madeCells elSa.z.cells (n * elSa.n)) elSa.e) = w31 at *
          generalize w28.heap.size = b31 at *
          refine late_all [1] (by kernel_rfl) (by simp) (fun jj hjj => ?_)
          obtain rfl := one_of hjj
          refine late_call (f := 95) rfl rfl (by kernel_rfl) (R := fun v w' => v = .pointer (some ⟨hp, 0, none⟩) ∧ w31 = w') ((HH.out w31 g31).mono (fun e w' ⟨h1, h2⟩ => ⟨_, h1, rfl, h2.symm⟩)) (fun v w32 hv => ?_)
          obtain ⟨rfl, rfl⟩ := hv
          refine ⟨fun _ => g31, ?_⟩
          exact late_at (by kernel_rfl) (by kernel_rfl) (CONT (b17, b31, b28) w31 ⟨o31x6, o31, o31x10, ⟨l17, l31, l28⟩, g31⟩)
    · refine late_op rfl rfl (ev_make 51 21 (.int .i64 (n : Int)) _ _ rfl (by kernel_rfl) (run_made okSa W1.drew n HN.out)) ?_
      have g33 : Fr no W1 (W1.drew.alloc (.cells (madeCells elSa.z.cells (n * elSa.n)) elSa.e)) := HS0.out.alloc _ _
      refine ⟨fun _ => g33, ?_⟩
      have o33 := own_row okSa W1.drew ⟨false, ⟨none, 0, 0⟩, ⟨none, 0, 0⟩, ⟨none, 0, 0⟩⟩ rfl n HN.out
      have q33 : Fr no W1.drew (W1.drew.alloc (.cells (madeCells elSa.z.cells (n * elSa.n)) elSa.e)) := (Fr.refl no W1.drew).alloc _ _
      have l33 : W1.heap.size ≤ W1.drew.heap.size := HS0.out.size
      clear q33
      generalize W1.drew.alloc (.cells (madeCells elSa.z.cells (n * elSa.n)) elSa.e) = w33 at *
      generalize W1.drew.heap.size = b33 at *
      refine late_all [1, 6, 10] (by kernel_rfl) (by simp) (fun jj hjj => ?_)
      simp only [List.mem_cons, List.not_mem_nil, or_false] at hjj
      rcases hjj with rfl | rfl | rfl
      · refine late_call (f := 95) rfl rfl (by kernel_rfl) (R := fun v w' => v = .pointer (some ⟨hp, 0, none⟩) ∧ w33 = w') ((HH.out w33 g33).mono (fun e w' ⟨h1, h2⟩ => ⟨_, h1, rfl, h2.symm⟩)) (fun v w34 hv => ?_)
        obtain ⟨rfl, rfl⟩ := hv
        refine ⟨fun _ => g33, ?_⟩
        refine late_all [6, 10] (by kernel_rfl) (by simp) (fun jj hjj => ?_)
        simp only [List.mem_cons, List.not_mem_nil, or_false] at hjj
        rcases hjj with rfl | rfl
        · refine late_op rfl rfl (ev_make 124 19 (.int .i64 (n : Int)) _ _ rfl (by kernel_rfl) (run_made okRu w33 n HN.out)) ?_
          have g35 : Fr no W1 (w33.alloc (.cells (madeCells elRu.z.cells (n * elRu.n)) elRu.e)) := g33.alloc _ _
          refine ⟨fun _ => g35, ?_⟩
          have o35 := own_row okRu w33 ⟨false, ⟨none, 0, 0⟩, ⟨none, 0, 0⟩⟩ rfl n HN.out
          have q35 : Fr no w33 (w33.alloc (.cells (madeCells elRu.z.cells (n * elRu.n)) elRu.e)) := (Fr.refl no w33).alloc _ _
          have l35 : W1.heap.size ≤ w33.heap.size := g33.size
          have o35x8 := o33.keep q35
          clear q35
          generalize w33.alloc (.cells (madeCells elRu.z.cells (n * elRu.n)) elRu.e) = w35 at *
          generalize w33.heap.size = b35 at *
          refine late_all [10] (by kernel_rfl) (by simp) (fun jj hjj => ?_)
          obtain rfl := one_of hjj
          refine late_op rfl rfl (ev_make 22 23 (.int .i64 (n : Int)) _ _ rfl (by kernel_rfl) (run_madeH elB_ok w35 n HN.out)) ?_
          have g36 : Fr no W1 (w35.alloc (.cells (madeCells elB.z.cells (n * 1)) elB.e)) := g35.alloc _ _
          refine ⟨fun _ => g36, ?_⟩
          have o36 := own_rowH elB_ok w35 false rfl n HN.out
          have q36 : Fr no w35 (w35.alloc (.cells (madeCells elB.z.cells (n * 1)) elB.e)) := (Fr.refl no w35).alloc _ _
          have l36 : W1.heap.size ≤ w35.heap.size := g35.size
          have o36x6 := o35.keep q36
          have o36x8 := o35x8.keep q36
          clear q36
          generalize w35.alloc (.cells (madeCells elB.z.cells (n * 1)) elB.e) = w36 at *
          generalize w35.heap.size = b36 at *
          exact late_at (by kernel_rfl) (by kernel_rfl) (CONT (b35, b33, b36) w36 ⟨o36x6, o36x8, o36, ⟨l35, l33, l36⟩, g36⟩)
        · refine late_op rfl rfl (ev_make 22 23 (.int .i64 (n : Int)) _ _ rfl (by kernel_rfl) (run_madeH elB_ok w33 n HN.out)) ?_
          have g37 : Fr no W1 (w33.alloc (.cells (madeCells elB.z.cells (n * 1)) elB.e)) := g33.alloc _ _
          refine ⟨fun _ => g37, ?_⟩
          have o37 := own_rowH elB_ok w33 false rfl n HN.out
          have q37 : Fr no w33 (w33.alloc (.cells (madeCells elB.z.cells (n * 1)) elB.e)) := (Fr.refl no w33).alloc _ _
          have l37 : W1.heap.size ≤ w33.heap.size := g33.size
          have o37x8 := o33.keep q37
          clear q37
          generalize w33.alloc (.cells (madeCells elB.z.cells (n * 1)) elB.e) = w37 at *
          generalize w33.heap.size = b37 at *
          refine late_all [6] (by kernel_rfl) (by simp) (fun jj hjj => ?_)
          obtain rfl := one_of hjj
          refine late_op rfl rfl (ev_make 124 19 (.int .i64 (n : Int)) _ _ rfl (by kernel_rfl) (run_made okRu w37 n HN.out)) ?_
          have g38 : Fr no W1 (w37.alloc (.cells (madeCells elRu.z.cells (n * elRu.n)) elRu.e)) := g37.alloc _ _
          refine ⟨fun _ => g38, ?_⟩
          have o38 := own_row okRu w37 ⟨false, ⟨none, 0, 0⟩, ⟨none, 0, 0⟩⟩ rfl n HN.out
          have q38 : Fr no w37 (w37.alloc (.cells (madeCells elRu.z.cells (n * elRu.n)) elRu.e)) := (Fr.refl no w37).alloc _ _
          have l38 : W1.heap.size ≤ w37.heap.size := g37.size
          have o38x10 := o37.keep q38
          have o38x8 := o37x8.keep q38
          clear q38
          generalize w37.alloc (.cells (madeCells elRu.z.cells (n * elRu.n)) elRu.e) = w38 at *
          generalize w37.heap.size = b38 at *
          exact late_at (by kernel_rfl) (by kernel_rfl) (CONT (b38, b33, b37) w38 ⟨o38, o38x8, o38x10, ⟨l38, l33, l37⟩, g38⟩)
      · refine late_op rfl rfl (ev_make 124 19 (.int .i64 (n : Int)) _ _ rfl (by kernel_rfl) (run_made okRu w33 n HN.out)) ?_
        have g39 : Fr no W1 (w33.alloc (.cells (madeCells elRu.z.cells (n * elRu.n)) elRu.e)) := g33.alloc _ _
        refine ⟨fun _ => g39, ?_⟩
        have o39 := own_row okRu w33 ⟨false, ⟨none, 0, 0⟩, ⟨none, 0, 0⟩⟩ rfl n HN.out
        have q39 : Fr no w33 (w33.alloc (.cells (madeCells elRu.z.cells (n * elRu.n)) elRu.e)) := (Fr.refl no w33).alloc _ _
        have l39 : W1.heap.size ≤ w33.heap.size := g33.size
        have o39x8 := o33.keep q39
        clear q39
        generalize w33.alloc (.cells (madeCells elRu.z.cells (n * elRu.n)) elRu.e) = w39 at *
        generalize w33.heap.size = b39 at *
        refine late_all [1, 10] (by kernel_rfl) (by simp) (fun jj hjj => ?_)
        simp only [List.mem_cons, List.not_mem_nil, or_false] at hjj
        rcases hjj with rfl | rfl
        · refine late_call (f := 95) rfl rfl (by kernel_rfl) (R := fun v w' => v = .pointer (some ⟨hp, 0, none⟩) ∧ w39 = w') ((HH.out w39 g39).mono (fun e w' ⟨h1, h2⟩ => ⟨_, h1, rfl, h2.symm⟩)) (fun v w40 hv => ?_)
          obtain ⟨rfl, rfl⟩ := hv
          refine ⟨fun _ => g39, ?_⟩
          refine late_all [10] (by kernel_rfl) (by simp) (fun jj hjj => ?_)
          obtain rfl := one_of hjj
          refine late_op rfl rfl (ev_make 22 23 (.int .i64 (n : Int)) _ _ rfl (by kernel_rfl) (run_madeH elB_ok w39 n HN.out)) ?_
          have g41 : Fr no W1 (w39.alloc (.cells (madeCells elB.z.cells (n * 1)) elB.e)) := g39.alloc _ _
          refine ⟨fun _ => g41, ?_⟩
          have o41 := own_rowH elB_ok w39 false rfl n HN.out
          have q41 : Fr no w39 (w39.alloc (.cells (madeCells elB.z.cells (n * 1)) elB.e)) := (Fr.refl no w39).alloc _ _
          have l41 : W1.heap.size ≤ w39.heap.size := g39.size
          have o41x6 := o39.keep q41
          have o41x8 := o39x8.keep q41
          clear q41
          generalize w39.alloc (.cells (madeCells elB.z.cells (n * 1)) elB.e) = w41 at *
          generalize w39.heap.size = b41 at *
          exact late_at (by kernel_rfl) (by kernel_rfl) (CONT (b39, b33, b41) w41 ⟨o41x6, o41x8, o41, ⟨l39, l33, l41⟩, g41⟩)
        · refine late_op rfl rfl (ev_make 22 23 (.int .i64 (n : Int)) _ _ rfl (by kernel_rfl) (run_madeH elB_ok w39 n HN.out)) ?_
          have g42 : Fr no W1 (w39.alloc (.cells (madeCells elB.z.cells (n * 1)) elB.e)) := g39.alloc _ _
          refine ⟨fun _ => g42, ?_⟩
          have o42 := own_rowH elB_ok w39 false rfl n HN.out
          have q42 : Fr no w39 (w39.alloc (.cells (madeCells elB.z.cells (n * 1)) elB.e)) := (Fr.refl no w39).alloc _ _
          have l42 : W1.heap.size ≤ w39.heap.size := g39.size
          have o42x6 := o39.keep q42
          have o42x8 := o39x8.keep q42
          clear q42
          generalize w39.alloc (.cells (madeCells elB.z.cells (n * 1)) elB.e) = w42 at *
          generalize w39.heap.size = b42 at *
          refine late_all [1] (by kernel_rfl) (by simp) (fun jj hjj => ?_)
          obtain rfl := one_of hjj
          refine late_call (f := 95) rfl rfl (by kernel_rfl) (R := fun v w' => v = .pointer (some ⟨hp, 0, none⟩) ∧ w42 = w') ((HH.out w42 g42).mono (fun e w' ⟨h1, h2⟩ => ⟨_, h1, rfl, h2.symm⟩)) (fun v w43 hv => ?_)
          obtain ⟨rfl, rfl⟩ := hv
          refine ⟨fun _ => g42, ?_⟩
          exact late_at (by kernel_rfl) (by kernel_rfl) (CONT (b39, b33, b42) w42 ⟨o42x6, o42x8, o42, ⟨l39, l33, l42⟩, g42⟩)
      · refine late_op rfl rfl (ev_make 22 23 (.int .i64 (n : Int)) _ _ rfl (by kernel_rfl) (run_madeH elB_ok w33 n HN.out)) ?_
        have g44 : Fr no W1 (w33.alloc (.cells (madeCells elB.z.cells (n * 1)) elB.e)) := g33.alloc _ _
        refine ⟨fun _ => g44, ?_⟩
        have o44 := own_rowH elB_ok w33 false rfl n HN.out
        have q44 : Fr no w33 (w33.alloc (.cells (madeCells elB.z.cells (n * 1)) elB.e)) := (Fr.refl no w33).alloc _ _
        have l44 : W1.heap.size ≤ w33.heap.size := g33.size
        have o44x8 := o33.keep q44
        clear q44
        generalize w33.alloc (.cells (madeCells elB.z.cells (n * 1)) elB.e) = w44 at *
        generalize w33.heap.size = b44 at *
        refine late_all [1, 6] (by kernel_rfl) (by simp) (fun jj hjj => ?_)
        simp only [List.mem_cons, List.not_mem_nil, or_false] at hjj
        rcases hjj with rfl | rfl
        · refine late_call (f := 95) rfl rfl (by kernel_rfl) (R := fun v w' => v = .pointer (some ⟨hp, 0, none⟩) ∧ w44 = w') ((HH.out w44 g44).mono (fun e w' ⟨h1, h2⟩ => ⟨_, h1, rfl, h2.symm⟩)) (fun v w45 hv => ?_)
          obtain ⟨rfl, rfl⟩ := hv
          refine ⟨fun _ => g44, ?_⟩
          refine late_all [6] (by kernel_rfl) (by simp) (fun jj hjj => ?_)
          obtain rfl := one_of hjj
          refine late_op rfl rfl (ev_make 124 19 (.int .i64 (n : Int)) _ _ rfl (by kernel_rfl) (run_made okRu w44 n HN.out)) ?_
          have g46 : Fr no W1 (w44.alloc (.cells (madeCells elRu.z.cells (n * elRu.n)) elRu.e)) := g44.alloc _ _
          refine ⟨fun _ => g46, ?_⟩
          have o46 := own_row okRu w44 ⟨false, ⟨none, 0, 0⟩, ⟨none, 0, 0⟩⟩ rfl n HN.out
          have q46 : Fr no w44 (w44.alloc (.cells (madeCells elRu.z.cells (n * elRu.n)) elRu.e)) := (Fr.refl no w44).alloc _ _
          have l46 : W1.heap.size ≤ w44.heap.size := g44.size
          have o46x10 := o44.keep q46
          have o46x8 := o44x8.keep q46
          clear q46
          generalize w44.alloc (.cells (madeCells elRu.z.cells (n * elRu.n)) elRu.e) = w46 at *
          generalize w44.heap.size = b46 at *
          exact late_at (by kernel_rfl) (by kernel_rfl) (CONT (b46, b33, b44) w46 ⟨o46, o46x8, o46x10, ⟨l46, l33, l44⟩, g46⟩)
        · refine late_op rfl rfl (ev_make 124 19 (.int .i64 (n : Int)) _ _ rfl (by kernel_rfl) (run_made okRu w44 n HN.out)) ?_
          have g47 : Fr no W1 (w44.alloc (.cells (madeCells elRu.z.cells (n * elRu.n)) elRu.e)) := g44.alloc _ _
          refine ⟨fun _ => g47, ?_⟩
          have o47 := own_row okRu w44 ⟨false, ⟨none, 0, 0⟩, ⟨none, 0, 0⟩⟩ rfl n HN.out
          have q47 : Fr no w44 (w44.alloc (.cells (madeCells elRu.z.cells (n * elRu.n)) elRu.e)) := (Fr.refl no w44).alloc _ _
          have l47 : W1.heap.size ≤ w44.heap.size := g44.size
          have o47x10 := o44.keep q47
          have o47x8 := o44x8.keep q47
          clear q47
          generalize w44.alloc (.cells (madeCells elRu.z.cells (n * elRu.n)) elRu.e) = w47 at *
          generalize w44.heap.size = b47 at *
          refine late_all [1] (by kernel_rfl) (by simp) (fun jj hjj => ?_)
          obtain rfl := one_of hjj
          refine late_call (f := 95) rfl rfl (by kernel_rfl) (R := fun v w' => v = .pointer (some ⟨hp, 0, none⟩) ∧ w47 = w') ((HH.out w47 g47).mono (fun e w' ⟨h1, h2⟩ => ⟨_, h1, rfl, h2.symm⟩)) (fun v w48 hv => ?_)
          obtain ⟨rfl, rfl⟩ := hv
          refine ⟨fun _ => g47, ?_⟩
          exact late_at (by kernel_rfl) (by kernel_rfl) (CONT (b47, b33, b44) w47 ⟨o47, o47x8, o47x10, ⟨l47, l33, l44⟩, g47⟩)
    · refine late_op rfl rfl (ev_make 22 23 (.int .i64 (n : Int)) _ _ rfl (by kernel_rfl) (run_madeH elB_ok W1.drew n HN.out)) ?_
      have g49 : Fr no W1 (W1.drew.alloc (.cells (madeCells elB.z.cells (n * 1)) elB.e)) := HS0.out.alloc _ _
      refine ⟨fun _ => g49, ?_⟩
      have o49 := own_rowH elB_ok W1.drew false rfl n HN.out
      have q49 : Fr no W1.drew (W1.drew.alloc (.cells (madeCells elB.z.cells (n * 1)) elB.e)) := (Fr.refl no W1.drew).alloc _ _
      have l49 : W1.heap.size ≤ W1.drew.heap.size := HS0.out.size
      clear q49
      generalize W1.drew.alloc (.cells (madeCells elB.z.cells (n * 1)) elB.e) = w49 at *
      generalize W1.drew.heap.size = b49 at *
      refine late_all [1, 6, 8] (by kernel_rfl) (by simp) (fun jj hjj => ?_)
      simp only [List.mem_cons, List.not_mem_nil, or_false] at hjj
      rcases hjj with rfl | rfl | rfl
      · refine late_call (f := 95) rfl rfl (by kernel_rfl) (R := fun v w' => v = .pointer (some ⟨hp, 0, none⟩) ∧ w49 = w') ((HH.out w49 g49).mono (fun e w' ⟨h1, h2⟩ => ⟨_, h1, rfl, h2.symm⟩)) (fun v w50 hv => ?_)
        obtain ⟨rfl, rfl⟩ := hv
        refine ⟨fun _ => g49, ?_⟩
        refine late_all [6, 8] (by kernel_rfl) (by simp) (fun jj hjj => ?_)
        simp only [List.mem_cons, List.not_mem_nil, or_false] at hjj
        rcases hjj with rfl | rfl
        · refine late_op rfl rfl (ev_make 124 19 (.int .i64 (n : Int)) _ _ rfl (by kernel_rfl) (run_made okRu w49 n HN.out)) ?_
          have g51 : Fr no W1 (w49.alloc (.cells (madeCells elRu.z.cells (n * elRu.n)) elRu.e)) := g49.alloc _ _
          refine ⟨fun _ => g51, ?_⟩
          have o51 := own_row okRu w49 ⟨false, ⟨none, 0, 0⟩, ⟨none, 0, 0⟩⟩ rfl n HN.out
          have q51 : Fr no w49 (w49.alloc (.cells (madeCells elRu.z.cells (n * elRu.n)) elRu.e)) := (Fr.refl no w49).alloc _ _
          have l51 : W1.heap.size ≤ w49.heap.size := g49.size
          have o51x10 := o49.keep q51
          clear q51
          generalize w49.alloc (.cells (madeCells elRu.z.cells (n * elRu.n)) elRu.e) = w51 at *
          generalize w49.heap.size = b51 at *
          refine late_all [8] (by kernel_rfl) (by simp) (fun jj hjj => ?_)
          obtain rfl := one_of hjj
          refine late_op rfl rfl (ev_make 51 21 (.int .i64 (n : Int)) _ _ rfl (by kernel_rfl) (run_made okSa w51 n HN.out)) ?_
          have g52 : Fr no W1 (w51.alloc (.cells (madeCells elSa.z.cells (n * elSa.n)) elSa.e)) := g51.alloc _ _
          refine ⟨fun _ => g52, ?_⟩
          have o52 := own_row okSa w51 ⟨false, ⟨none, 0, 0⟩, ⟨none, 0, 0⟩, ⟨none, 0, 0⟩⟩ rfl n HN.out
          have q52 : Fr no w51 (w51.alloc (.cells (madeCells elSa.z.cells (n * elSa.n)) elSa.e)) := (Fr.refl no w51).alloc _ _
          have l52 : W1.heap.size ≤ w51.heap.size := g51.size
          have o52x6 := o51.keep q52
          have o52x10 := o51x10.keep q52
          clear q52
          generalize w51.alloc (.cells (madeCells elSa.z.cells (n * elSa.n)) elSa.e) = w52 at *
          generalize w51.heap.size = b52 at *
          exact late_at (by kernel_rfl) (by kernel_rfl) (CONT (b51, b52, b49) w52 ⟨o52x6, o52, o52x10, ⟨l51, l52, l49⟩, g52⟩)
        · refine late_op rfl rfl (ev_make 51 21 (.int .i64 (n : Int)) _ _ rfl (by kernel_rfl) (run_made okSa w49 n HN.out)) ?_
          have g53 : Fr no W1 (w49.alloc (.cells (madeCells elSa.z.cells (n * elSa.n)) elSa.e)) := g49.alloc _ _
          refine ⟨fun _ => g53, ?_⟩
          have o53 := own_row okSa w49 ⟨false, ⟨none, 0, 0⟩, ⟨none, 0, 0⟩, ⟨none, 0, 0⟩⟩ rfl n HN.out
          have q53 : Fr no w49 (w49.alloc (.cells (madeCells elSa.z.cells (n * elSa.n)) elSa.e)) := (Fr.refl no w49).alloc _ _
          have l53 : W1.heap.size ≤ w49.heap.size := g49.size
          have o53x10 := o49.keep q53
          clear q53
          generalize w49.alloc (.cells (madeCells elSa.z.cells (n * elSa.n)) elSa.e) = w53 at *
          generalize w49.heap.size = b53 at *
          refine late_all [6] (by kernel_rfl) (by simp) (fun jj hjj => ?_)
          obtain rfl := one_of hjj
          refine late_op rfl rfl (ev_make 124 19 (.int .i64 (n : Int)) _ _ rfl (by kernel_rfl) (run_made okRu w53 n HN.out)) ?_
          have g54 : Fr no W1 (w53.alloc (.cells (madeCells elRu.z.cells (n * elRu.n)) elRu.e)) := g53.alloc _ _
          refine ⟨fun _ => g54, ?_⟩
          have o54 := own_row okRu w53 ⟨false, ⟨none, 0, 0⟩, ⟨none, 0, 0⟩⟩ rfl n HN.out
          have q54 : Fr no w53 (w53.alloc (.cells (madeCells elRu.z.cells (n * elRu.n)) elRu.e)) := (Fr.refl no w53).alloc _ _
          have l54 : W1.heap.size ≤ w53.heap.size := g53.size
          have o54x8 := o53.keep q54
          have o54x10 := o53x10.keep q54
          clear q54
          generalize w53.alloc (.cells (madeCells elRu.z.cells (n * elRu.n)) elRu.e) = w54 at *
          generalize w53.heap.size = b54 at *
          exact late_at (by kernel_rfl) (by kernel_rfl) (CONT (b54, b53, b49) w54 ⟨o54, o54x8, o54x10, ⟨l54, l53, l49⟩, g54⟩)
      · refine late_op rfl rfl (ev_make 124 19 (.int .i64 (n : Int)) _ _ rfl (by kernel_rfl) (run_made okRu w49 n HN.out)) ?_
        have g55 : Fr no W1 (w49.alloc (.cells (madeCells elRu.z.cells (n * elRu.n)) elRu.e)) := g49.alloc _ _
        refine ⟨fun _ => g55, ?_⟩
        have o55 := own_row okRu w49 ⟨false, ⟨none, 0, 0⟩, ⟨none, 0, 0⟩⟩ rfl n HN.out
        have q55 : Fr no w49 (w49.alloc (.cells (madeCells elRu.z.cells (n * elRu.n)) elRu.e)) := (Fr.refl no w49).alloc _ _
        have l55 : W1.heap.size ≤ w49.heap.size := g49.size
        have o55x10 := o49.keep q55
        clear q55
        generalize w49.alloc (.cells (madeCells elRu.z.cells (n * elRu.n)) elRu.e) = w55 at *
        generalize w49.heap.size = b55 at *
        refine late_all [1, 8] (by kernel_rfl) (by simp) (fun jj hjj => ?_)
        simp only [List.mem_cons, List.not_mem_nil, or_false] at hjj
        rcases hjj with rfl | rfl
        · refine late_call (f := 95) rfl rfl (by kernel_rfl) (R := fun v w' => v = .pointer (some ⟨hp, 0, none⟩) ∧ w55 = w') ((HH.out w55 g55).mono (fun e w' ⟨h1, h2⟩ => ⟨_, h1, rfl, h2.symm⟩)) (fun v w56 hv => ?_)
          obtain ⟨rfl, rfl⟩ := hv
          refine ⟨fun _ => g55, ?_⟩
          refine late_all [8] (by kernel_rfl) (by simp) (fun jj hjj => ?_)
          obtain rfl := one_of hjj
          refine late_op rfl rfl (ev_make 51 21 (.int .i64 (n : Int)) _ _ rfl (by kernel_rfl) (run_made okSa w55 n HN.out)) ?_
          have g57 : Fr no W1 (w55.alloc (.cells (madeCells elSa.z.cells (n * elSa.n)) elSa.e)) := g55.alloc _ _
          refine ⟨fun _ => g57, ?_⟩
          have o57 := own_row okSa w55 ⟨false, ⟨none, 0, 0⟩, ⟨none, 0, 0⟩, ⟨none, 0, 0⟩⟩ rfl n HN.out
          have q57 : Fr no w55 (w55.alloc (.cells (madeCells elSa.z.cells (n * elSa.n)) elSa.e)) := (Fr.refl no w55).alloc _ _
          have l57 : W1.heap.size ≤ w55.heap.size := g55.size
          have o57x6 := o55.keep q57
          have o57x10 := o55x10.keep q57
          clear q57
          generalize w55.alloc (.cells (madeCells elSa.z.cells (n * elSa.n)) elSa.e) = w57 at *
          generalize w55.heap.size = b57 at *
          exact late_at (by kernel_rfl) (by kernel_rfl) (CONT (b55, b57, b49) w57 ⟨o57x6, o57, o57x10, ⟨l55, l57, l49⟩, g57⟩)
        · refine late_op rfl rfl (ev_make 51 21 (.int .i64 (n : Int)) _ _ rfl (by kernel_rfl) (run_made okSa w55 n HN.out)) ?_
          have g58 : Fr no W1 (w55.alloc (.cells (madeCells elSa.z.cells (n * elSa.n)) elSa.e)) := g55.alloc _ _
          refine ⟨fun _ => g58, ?_⟩
          have o58 := own_row okSa w55 ⟨false, ⟨none, 0, 0⟩, ⟨none, 0, 0⟩, ⟨none, 0, 0⟩⟩ rfl n HN.out
          have q58 : Fr no w55 (w55.alloc (.cells (madeCells elSa.z.cells (n * elSa.n)) elSa.e)) := (Fr.refl no w55).alloc _ _
          have l58 : W1.heap.size ≤ w55.heap.size := g55.size
          have o58x6 := o55.keep q58
          have o58x10 := o55x10.keep q58
          clear q58
          generalize w55.alloc (.cells (madeCells elSa.z.cells (n * elSa.n)) elSa.e) = w58 at *
          generalize w55.heap.size = b58 at *
          refine late_all [1] (by kernel_rfl) (by simp) (fun jj hjj => ?_)
          obtain rfl := one_of hjj
          refine late_call (f := 95) rfl rfl (by kernel_rfl) (R := fun v w' => v = .pointer (some ⟨hp, 0, none⟩) ∧ w58 = w') ((HH.out w58 g58).mono (fun e w' ⟨h1, h2⟩ => ⟨_, h1, rfl, h2.symm⟩)) (fun v w59 hv => ?_)
          obtain ⟨rfl, rfl⟩ := hv
          refine ⟨fun _ => g58, ?_⟩
          exact late_at (by kernel_rfl) (by kernel_rfl) (CONT (b55, b58, b49) w58 ⟨o58x6, o58, o58x10, ⟨l55, l58, l49⟩, g58⟩)
      · refine late_op rfl rfl (ev_make 51 21 (.int .i64 (n : Int)) _ _ rfl (by kernel_rfl) (run_made okSa w49 n HN.out)) ?_
        have g60 : Fr no W1 (w49.alloc (.cells (madeCells elSa.z.cells (n * elSa.n)) elSa.e)) := g49.alloc _ _
        refine ⟨fun _ => g60, ?_⟩
        have o60 := own_row okSa w49 ⟨false, ⟨none, 0, 0⟩, ⟨none, 0, 0⟩, ⟨none, 0, 0⟩⟩ rfl n HN.out
        have q60 : Fr no w49 (w49.alloc (.cells (madeCells elSa.z.cells (n * elSa.n)) elSa.e)) := (Fr.refl no w49).alloc _ _
        have l60 : W1.heap.size ≤ w49.heap.size := g49.size
        have o60x10 := o49.keep q60
        clear q60
        generalize w49.alloc (.cells (madeCells elSa.z.cells (n * elSa.n)) elSa.e) = w60 at *
        generalize w49.heap.size = b60 at *
        refine late_all [1, 6] (by kernel_rfl) (by simp) (fun jj hjj => ?_)
        simp only [List.mem_cons, List.not_mem_nil, or_false] at hjj
        rcases hjj with rfl | rfl
        · refine late_call (f := 95) rfl rfl (by kernel_rfl) (R := fun v w' => v = .pointer (some ⟨hp, 0, none⟩) ∧ w60 = w') ((HH.out w60 g60).mono (fun e w' ⟨h1, h2⟩ => ⟨_, h1, rfl, h2.symm⟩)) (fun v w61 hv => ?_)
          obtain ⟨rfl, rfl⟩ := hv
          refine ⟨fun _ => g60, ?_⟩
          refine late_all [6] (by kernel_rfl) (by simp) (fun jj hjj => ?_)
          obtain rfl := one_of hjj
          refine late_op rfl rfl (ev_make 124 19 (.int .i64 (n : Int)) _ _ rfl (by kernel_rfl) (run_made okRu w60 n HN.out)) ?_
          have g62 : Fr no W1 (w60.alloc (.cells (madeCells elRu.z.cells (n * elRu.n)) elRu.e)) := g60.alloc _ _
          refine ⟨fun _ => g62, ?_⟩
          have o62 := own_row okRu w60 ⟨false, ⟨none, 0, 0⟩, ⟨none, 0, 0⟩⟩ rfl n HN.out
          have q62 : Fr no w60 (w60.alloc (.cells (madeCells elRu.z.cells (n * elRu.n)) elRu.e)) := (Fr.refl no w60).alloc _ _
          have l62 : W1.heap.size ≤ w60.heap.size := g60.size
          have o62x8 := o60.keep q62
          have o62x10 := o60x10.keep q62
          clear q62
          generalize w60.alloc (.cells (madeCells elRu.z.cells (n * elRu.n)) elRu.e) = w62 at *
          generalize w60.heap.size = b62 at *
          exact late_at (by kernel_rfl) (by kernel_rfl) (CONT (b62, b60, b49) w62 ⟨o62, o62x8, o62x10, ⟨l62, l60, l49⟩, g62⟩)
        · refine late_op rfl rfl (ev_make 124 19 (.int .i64 (n : Int)) _ _ rfl (by kernel_rfl) (run_made okRu w60 n HN.out)) ?_
          have g63 : Fr no W1 (w60.alloc (.cells (madeCells elRu.z.cells (n * elRu.n)) elRu.e)) := g60.alloc _ _
          refine ⟨fun _ => g63, ?_⟩
          have o63 := own_row okRu w60 ⟨false, ⟨none, 0, 0⟩, ⟨none, 0, 0⟩⟩ rfl n HN.out
          have q63 : Fr no w60 (w60.alloc (.cells (madeCells elRu.z.cells (n * elRu.n)) elRu.e)) := (Fr.refl no w60).alloc _ _
          have l63 : W1.heap.size ≤ w60.heap.size := g60.size
          have o63x8 := o60.keep q63
          have o63x10 := o60x10.keep q63
          clear q63
          generalize w60.alloc (.cells (madeCells elRu.z.cells (n * elRu.n)) elRu.e) = w63 at *
          generalize w60.heap.size = b63 at *
          refine late_all [1] (by kernel_rfl) (by simp) (fun jj hjj => ?_)
          obtain rfl := one_of hjj
          refine late_call (f := 95) rfl rfl (by kernel_rfl) (R := fun v w' => v = .pointer (some ⟨hp, 0, none⟩) ∧ w63 = w') ((HH.out w63 g63).mono (fun e w' ⟨h1, h2⟩ => ⟨_, h1, rfl, h2.symm⟩)) (fun v w64 hv => ?_)
          obtain ⟨rfl, rfl⟩ := hv
          refine ⟨fun _ => g63, ?_⟩
          exact late_at (by kernel_rfl) (by kernel_rfl) (CONT (b63, b60, b49) w63 ⟨o63, o63x8, o63x10, ⟨l63, l60, l49⟩, g63⟩)
end Go.Proofs.YtpfkigoffllieaaGreatDoor
