/- What a class's members are made of, and whether those above go with them. -/
import Derived.Test.YtpfkigoffllieaaGreatDoorJam
import Derived.Test.YtpfkigoffllieaaGreatDoorJak
import Derived.Test.YtpfkigoffllieaaGreatDoorJal
namespace Go.Proofs.YtpfkigoffllieaaGreatDoor
open Go.ChangeShapes Go.WideShapes Go.ChangeAt Go.RowKit
open H (ky Owns MapOf ix up nameAt anc Fine obj fault)

theorem slice_one (g n c : Nat) (h : 1 ≤ n) (hc : n ≤ c) : ∃ o, (∀ w : World, (Instr.sliceAt 74 (.slice (some ⟨g, 0, none⟩) n c) (some (.int .i64 1)) none none).run Tryz.prog w = .ok (.slice (some ⟨g, o, none⟩) (n - 1) (c - 1)) w) ∧ (2 ≤ n → o = 1) := by
  by_cases h1 : c = 1
  · refine ⟨0, fun w => ?_, fun h2 => by omega⟩
    simp [go_sem]
    rw [if_pos (by omega), if_pos h1]
  · refine ⟨1, fun w => ?_, fun _ => rfl⟩
    simp [go_sem]
    rw [if_pos (by omega), if_neg h1]

theorem ev_slice {o : Oper} {a : Act} {w : World} (x : Nat) (v u c : Value) (ho : o.op = .slice 74 (.tmp x) (some (.const c)) none none) (hx : a.eval (.tmp x) = v) (hr : (Instr.sliceAt 74 v (some c) none none).run Tryz.prog w = .ok u w) : (execOp a.eval o).run Tryz.prog w = .ok (.value u) w := by
  have hcc : a.eval (.const c) = c := rfl
  unfold execOp; simp [ho, hx, hcc, hr]

theorem Prg.cls {w : World} {p : Nat} {Cs : List Cl} {A : List Nat} (h : Prg w p Cs A) {j : Nat} (hj : j < Cs.length) : clsAt Cs j ∈ Cs ∧ (namesOf Cs)[j]? = some (clsAt Cs j).name ∧ ix (clsAt Cs j).name (namesOf Cs) = some j ∧ FitC (clsAt Cs j) := by
  have e : clsAt Cs j = Cs[j] := by unfold clsAt; rw [List.getD_eq_getElem?_getD, List.getElem?_eq_getElem hj]; rfl
  have h1 : clsAt Cs j ∈ Cs := by rw [e]; exact List.getElem_mem hj
  have h2 : (namesOf Cs)[j]? = some (clsAt Cs j).name := by unfold namesOf; rw [List.getElem?_map, List.getElem?_eq_getElem hj, e]; rfl
  refine ⟨h1, h2, H.ix_nodup h.nd h2, ?_⟩
  have := h.good.fit (lay Cs A j) (List.mem_of_getElem? (layAll_get hj))
  rw [lay_cls] at this
  exact this

theorem namedP_any (w : World) (p : Nat) (Cs : List Cl) (A : List Nat) (h : Prg w p Cs A) (j : Nat) (hj : j < Cs.length) :
    Calls Tryz.prog 89 #[.pointer (some ⟨p, 0, none⟩), .string (clsAt Cs j).name] w fun e w' => ∃ s, e = .returned (ksV s) ∧ ClAt w' s (clsAt Cs j) ∧ Fr no w w' := by
  obtain ⟨w0, hp, m, v, X, ch, P, -⟩ := h.ex
  obtain ⟨-, -, hix, hfit⟩ := h.cls hj
  refine (named_any w0 w p hp m v X _ P (clsAt Cs j).name hfit.name j (by rw [layAll_names]; exact hix)).mono ?_
  rintro e w' ⟨x, hx, rfl, hf⟩
  have L := P.at' j x _ hx (layAll_get hj)
  have := L.k
  rw [lay_cls] at this
  exact ⟨x.k, rfl, this.at'.kept hf, hf⟩

theorem up_pos (A : List Nat) (n i : Nat) (hn : 0 < n) : 1 ≤ (up A n i).1.length := by
  obtain ⟨m, rfl⟩ : ∃ m, n = m + 1 := ⟨n - 1, by omega⟩
  unfold up
  split <;> simp

set_option maxRecDepth 100000 in
set_option maxHeartbeats 4000000 in
theorem checkMembers_any (w : World) (p : Nat) (Cs : List Cl) (A : List Nat) (h : Prg w p Cs A) (i : Nat) (hi : i < Cs.length) (x : Lk) (hx : ClAt w x.k (clsAt Cs i)) :
    Calls Tryz.prog 55 #[.pointer (some ⟨p, 0, none⟩), .agg #[.string x.k.name, .string x.k.super, .slice x.k.p.a x.k.p.n x.k.p.c, .slice x.k.f.a x.k.f.n x.k.f.c, .slice x.k.m.a x.k.m.n x.k.m.c, .slice x.s.a x.s.n x.s.c, .int .i64 x.wd, .map (some x.fm), .map (some x.mm)]] w fun e w' => e = .returned (.int .i64 (memE Cs A i : Int)) ∧ Fr no w w' := by
  obtain ⟨hp, b0, hh⟩ := h.hier
  obtain ⟨hmem, hnm, hix, hfit⟩ := h.cls hi
  have G0 : Fr no w (w.alloc (.cells #[.string x.k.name, .string x.k.super, .slice x.k.p.a x.k.p.n x.k.p.c, .slice x.k.f.a x.k.f.n x.k.f.c, .slice x.k.m.a x.k.m.n x.k.m.c, .slice x.s.a x.s.n x.s.c, .int .i64 x.wd, .map (some x.fm), .map (some x.mm)] 119)) := (Fr.refl no w).alloc _ _
  have E0 : (w.alloc (.cells #[.string x.k.name, .string x.k.super, .slice x.k.p.a x.k.p.n x.k.p.c, .slice x.k.f.a x.k.f.n x.k.f.c, .slice x.k.m.a x.k.m.n x.k.m.c, .slice x.s.a x.s.n x.s.c, .int .i64 x.wd, .map (some x.fm), .map (some x.mm)] 119)).heap[w.heap.size]? = some (.cells #[.string x.k.name, .string x.k.super, .slice x.k.p.a x.k.p.n x.k.p.c, .slice x.k.f.a x.k.f.n x.k.f.c, .slice x.k.m.a x.k.m.n x.k.m.c, .slice x.s.a x.s.n x.s.c, .int .i64 x.wd, .map (some x.fm), .map (some x.mm)] 119 (0, 0)) := heap_alloc_new w _
  have HC := hasClasses_any _ p Cs A (h.keep G0) x.k (clsAt Cs i) (hx.kept G0) hfit
  have d0 := cell_at (o := 0) E0
  have d1 := cell_at (o := 1) E0
  have d2 := cell_at (o := 2) E0
  have d3 := cell_at (o := 3) E0
  have d4 := cell_at (o := 4) E0
  simp only [List.getElem?_toArray, List.getElem?_cons_zero, List.getElem?_cons_succ] at d0 d1 d2 d3 d4
  have hxn : x.k.name = (clsAt Cs i).name := hx.name
  have hlen0 : 0 < Cs.length := by omega
  have HAN : Hid (∀ w', Fr no (w.alloc (.cells #[.string x.k.name, .string x.k.super, .slice x.k.p.a x.k.p.n x.k.p.c, .slice x.k.f.a x.k.f.n x.k.f.c, .slice x.k.m.a x.k.m.n x.k.m.c, .slice x.s.a x.s.n x.s.c, .int .i64 x.wd, .map (some x.fm), .map (some x.mm)] 119)) w' → Calls Tryz.prog 87 #[.pointer (some ⟨hp, 0, none⟩), .string x.k.name] w' fun e w2 => ∃ v, e = .returned v ∧ H.OwnG H.elS w2 v ((up A Cs.length i).1.map (nameAt (namesOf Cs))) ∧ Fr no w' w2) := fun w' hf => by
    obtain ⟨ch, hb⟩ := hh w' (G0.new hf (fun _ _ f => f))
    have := H.ancestors_any w' hp (namesOf Cs) A hb (by have := h.fine; simpa [namesOf] using this) (by have := h.few; simp [namesOf]; omega) x.k.name (by rw [hxn]; exact hfit.name)
    refine this.mono ?_
    rintro e w2 ⟨v, rfl, ov, -, f2⟩
    refine ⟨v, rfl, ?_, f2⟩
    have e1 : anc (namesOf Cs) A x.k.name = (up A Cs.length i).1.map (nameAt (namesOf Cs)) := by
      unfold anc
      rw [hxn, hix]
      simp [namesOf]
    rw [← e1]
    exact ov
  have HP : Hid (∀ w', Fr no (w.alloc (.cells #[.string x.k.name, .string x.k.super, .slice x.k.p.a x.k.p.n x.k.p.c, .slice x.k.f.a x.k.f.n x.k.f.c, .slice x.k.m.a x.k.m.n x.k.m.c, .slice x.s.a x.s.n x.s.c, .int .i64 x.wd, .map (some x.fm), .map (some x.mm)] 119)) w' → Prg w' p Cs A ∧ ClAt w' x.k (clsAt Cs i) ∧ w'.heap[w.heap.size]? = some (.cells #[.string x.k.name, .string x.k.super, .slice x.k.p.a x.k.p.n x.k.p.c, .slice x.k.f.a x.k.f.n x.k.f.c, .slice x.k.m.a x.k.m.n x.k.m.c, .slice x.s.a x.s.n x.s.c, .int .i64 x.wd, .map (some x.fm), .map (some x.mm)] 119 (0, 0)) ∧ w'.cell? ⟨p, 0, none⟩ = some (.pointer (some ⟨hp, 0, none⟩))) := fun w' hf => ⟨(h.keep G0).keep hf, (hx.kept G0).kept hf, hf.heap E0 (fun f => f), hf.cell (G0.cell b0 (fun f => f)) (fun f => f)⟩
  have HW : Hid (∀ k j, ((up A Cs.length i).1.drop 1)[k]? = some j → j < Cs.length ∧ nameAt (namesOf Cs) j = (clsAt Cs j).name) := fun k j hk => by
    have hj := H.up_lt h.fine Cs.length i hi j (List.mem_of_mem_drop (List.mem_of_getElem? hk))
    refine ⟨hj, ?_⟩
    unfold nameAt
    rw [List.getD_eq_getElem?_getD, (h.cls hj).2.1]
    rfl
  have HUP : Hid (1 ≤ (up A Cs.length i).1.length ∧ (up A Cs.length i).1.length ≤ 18) := ⟨up_pos A _ i hlen0, Nat.le_trans (H.up_len A _ i) h.few⟩
  have HG : Hid (_) := G0
  have HE : Hid (memE Cs A i = if noCls (namesOf Cs) (clsAt Cs i) = true then 70 else if (above Cs A i).any (shares (clsAt Cs i)) = true then 53 else if (above Cs A i).any (differ (clsAt Cs i)) = true then 73 else 0) := rfl
  have HAB : Hid (above Cs A i = ((up A Cs.length i).1.drop 1).map (clsAt Cs)) := rfl
  clear h hh G0 E0 b0 hmem hnm hix hfit hx hxn hlen0
  generalize hW : w.alloc (.cells #[.string x.k.name, .string x.k.super, .slice x.k.p.a x.k.p.n x.k.p.c, .slice x.k.f.a x.k.f.n x.k.f.c, .slice x.k.m.a x.k.m.n x.k.m.c, .slice x.s.a x.s.n x.s.c, .int .i64 x.wd, .map (some x.fm), .map (some x.mm)] 119) = W at *
  generalize hUL : (up A Cs.length i).1 = U at *
  cases hno : noCls (namesOf Cs) (clsAt Cs i) with
  | true =>
    have HN : Hid (memE Cs A i = 70) := by show _ = _; rw [HE.out, if_pos hno]
    rw [hno] at HC
    simp only [Bool.not_true] at HC
    clear hno
    go_enter Tryz.func55, Tryz.ntmps55
    go_wp2_with fail
    refine HC.mono ?_
    rintro e w1 ⟨rfl, f1⟩
    go_wp2_with fail
    go_ret
    rw [HN.out]
    exact ⟨rfl, HG.out.new f1 (fun _ _ f => f)⟩
  | false =>
    have HN0 : Hid (memE Cs A i = if (above Cs A i).any (shares (clsAt Cs i)) = true then 53 else if (above Cs A i).any (differ (clsAt Cs i)) = true then 73 else 0) := by show _ = _; rw [HE.out, if_neg (by rw [hno]; simp)]
    rw [hno] at HC
    simp only [Bool.not_false] at HC
    clear hno
    go_enter Tryz.func55, Tryz.ntmps55
    go_wp2_with fail
    refine HC.mono ?_
    rintro e w1 ⟨rfl, f1⟩
    clear HC d0 d1 d2 d3 d4
    go_wp2_with fail
    have HS0 : Hid (Fr no w1 w1.drew) := (Fr.refl no w1).drew
    have AN := HAN.out w1.drew (f1.drew)
    refine late_begin (S := fun w' => Fr no w1 w') (g := 7) (by kernel_rfl) ?_
    refine late_pure 0 (.pointer (some ⟨p, 0, none⟩)) rfl (by kernel_rfl) (by kernel_rfl) (by kernel_rfl) (fun _ _ _ h => h) (by decide) (yields rfl (fun _ _ => ev_move 0 _ rfl (by kernel_rfl))) (fun _ => HS0.out) ?_
    refine late_pure 1 (.pointer (some ⟨p, 0, none⟩)) rfl (by kernel_rfl) (by kernel_rfl) (by kernel_rfl) (fun _ _ _ h => h) (by decide) (yields rfl (fun _ _ => ev_nil 15 ⟨p, 0, none⟩ rfl (by kernel_rfl))) (fun _ => HS0.out) ?_
    refine late_pure 2 (.pointer (some ⟨p, 0, none⟩)) rfl (by kernel_rfl) (by kernel_rfl) (by kernel_rfl) (fun _ _ _ h => h) (by decide) (yields rfl (fun _ _ => ev_field 111 16 0 (.pointer (some ⟨p, 0, none⟩)) _ rfl (by kernel_rfl) (by kernel_rfl))) (fun _ => HS0.out) ?_
    refine late_take 3 (.pointer (some ⟨hp, 0, none⟩)) rfl (by kernel_rfl) (by kernel_rfl) (by kernel_rfl) (fun _ _ _ h => h) (waits_of (by kernel_rfl)) (by decide) (by kernel_rfl) (yields rfl (fun w' hS => ev_load 71 17 (.pointer (some ⟨p, 0, none⟩)) _ rfl (by kernel_rfl) (by simp [go_sem, (HP.out w' (f1.new hS (fun _ _ f => f))).2.2.2]))) HS0.out ?_
    refine late_pure 4 (.pointer (some ⟨w.heap.size, 0, none⟩)) rfl (by kernel_rfl) (by kernel_rfl) (by kernel_rfl) (fun _ _ _ h => h) (by decide) (yields rfl (fun _ _ => ev_field 119 3 0 (.pointer (some ⟨w.heap.size, 0, none⟩)) _ rfl (by kernel_rfl) (by kernel_rfl))) (fun _ => HS0.out) ?_
    refine late_pure 5 (.pointer (some ⟨w.heap.size, 0, none⟩)) rfl (by kernel_rfl) (by kernel_rfl) (by kernel_rfl) (fun _ _ _ h => h) (by decide) (yields rfl (fun _ _ => ev_field 68 19 0 (.pointer (some ⟨w.heap.size, 0, none⟩)) _ rfl (by kernel_rfl) (by kernel_rfl))) (fun _ => HS0.out) ?_
    refine late_take 6 (.string x.k.name) rfl (by kernel_rfl) (by kernel_rfl) (by kernel_rfl) (fun _ _ _ h => h) (waits_of (by kernel_rfl)) (by decide) (by kernel_rfl) (yields rfl (fun w' hS => ev_load 9 20 (.pointer (some ⟨w.heap.size, 0, none⟩)) _ rfl (by kernel_rfl) (by simp [go_sem, cell_at (o := 0) (HP.out w' (f1.new hS (fun _ _ f => f))).2.2.1]))) HS0.out ?_
    refine late_all [7] (by kernel_rfl) (by simp) (fun j hj => ?_)
    obtain rfl := one_of hj
    refine late_call (f := 87) rfl rfl (by kernel_rfl) (R := fun v w' => H.OwnG H.elS w' v (U.map (nameAt (namesOf Cs))) ∧ Fr no w1.drew w') (AN.mono (fun e w' ⟨v, h1, h2, h3⟩ => ⟨v, h1, h2, h3⟩)) (fun v w2 hv => ?_)
    obtain ⟨ov, f2⟩ := hv
    have g2 : Fr no W w2 := f1.drew.new f2 (fun _ _ f => f)
    obtain ⟨q2, c2, rfl⟩ := ov.form
    have hul := HUP.out
    rw [List.length_map]
    obtain ⟨g, rfl⟩ : ∃ g, q2 = some ⟨g, 0, none⟩ := by
      rcases ov.2 with ⟨e, h0⟩ | ⟨gg, cc, cu, e, _⟩
      · rw [List.length_map] at h0
        omega
      · simp only [Value.slice.injEq] at e
        exact ⟨gg, e.1⟩
    obtain ⟨ad, cp, ev, hcap, hmx, -, hway⟩ := ov.sl
    simp only [Value.slice.injEq] at ev
    obtain ⟨rfl, -, rfl⟩ := ev
    rw [List.length_map] at hcap
    obtain ⟨os, hsl, hos⟩ := slice_one g U.length c2 hul.1 hcap
    refine ⟨(fun h => Bool.noConfusion (show true = false from h)), ?_⟩
    refine late_pure 8 (.slice (some ⟨g, os, none⟩) (U.length - 1) (c2 - 1)) rfl (by kernel_rfl) (by kernel_rfl) (by kernel_rfl) (fun _ _ _ h => h) (by decide) (yields rfl (fun w' _ => ev_slice 22 _ _ _ rfl (by kernel_rfl) (hsl w'))) (fun h => Bool.noConfusion (show true = false from h)) ?_
    refine late_pure 9 (.slice (some ⟨g, os, none⟩) (U.length - 1) (c2 - 1)) rfl (by kernel_rfl) (by kernel_rfl) (by kernel_rfl) (fun _ _ _ h => h) (by decide) (yields rfl (fun _ _ => ev_assign 23 _ rfl (by kernel_rfl))) (fun h => Bool.noConfusion (show true = false from h)) ?_
    refine late_done (by kernel_rfl) ?_
    have HWAY : Hid (∀ w', Fr no w2 w' → ∀ k j, (U.drop 1)[k]? = some j → w'.cell? ⟨g, os + k, none⟩ = some (.string (clsAt Cs j).name)) := fun w' hf k j hj => by
      have hj' : U[k + 1]? = some j := by rw [List.getElem?_drop] at hj; rwa [Nat.add_comm] at hj
      have h2 : 2 ≤ U.length := by have := (List.getElem?_eq_some_iff.1 hj').1; omega
      rw [hos h2]
      obtain ⟨b, off, hbo, hcc⟩ := hway (k + 1) (nameAt (namesOf Cs) j) (by rw [List.getElem?_map, hj']; rfl)
      simp only [Option.some.injEq, Addr.mk.injEq] at hbo
      obtain ⟨rfl, rfl, -⟩ := hbo
      have := hf.cell hcc (fun f => f)
      rw [(HW.out k j hj).2] at this
      rw [show 1 + k = 0 + (k + 1) by omega]
      exact this
    have HNL0 : Hid ((U.drop 1).length = U.length - 1) := by show _ = _; simp
    have HG2 : Hid (Fr no W w2) := g2
    have hn18 : U.length - 1 ≤ 18 := by omega
    have hc18 : U.length - 1 ≤ c2 - 1 := by omega
    clear hsl hos hway ov AN f1 f2 HS0 HAN hcap hmx g2 HE
    generalize hnl : U.length - 1 = nl at *
    have HNL : Hid ((U.drop 1).length = nl) := HNL0.out
    clear HNL0
    have HST : Hid (Fr no w2 w2) := Fr.refl no w2
    go_wp2_with fail
    go_loopw [26] (fun t wr => ∃ (k : Nat), t = .int .i64 (k : Int) ∧ k ≤ nl ∧ Fr no w2 wr ∧ (((U.drop 1).take k).any fun j => shares (clsAt Cs i) (clsAt Cs j)) = false) (fun t _ => nl - (intOf t).toNat)
    case atStart => exact ⟨0, rfl, by omega, HST.out, by simp⟩
    case round =>
      obtain ⟨k, rfl, hk, hw, hall⟩ := hrel
      have HA : Hid ((((U.drop 1).take k).any fun j => shares (clsAt Cs i) (clsAt Cs j)) = false) := hall
      clear hall
      by_cases hlt : k < nl
      · have hki : (k : Int) < (nl : Int) := by omega
        obtain ⟨j, hj⟩ : ∃ j, (U.drop 1)[k]? = some j := ⟨_, List.getElem?_eq_getElem (by rw [← HNL.out] at hlt; exact hlt)⟩
        have hcw := HWAY.out wr hw k j hj
        have hjc := (HW.out k j hj).1
        have gw : Fr no W wr := HG2.out.new hw (fun _ _ f => f)
        have NA := namedP_any wr.drew p Cs A (HP.out wr.drew gw.drew).1 j hjc
        have HJ : Hid (((U.drop 1)[k]? = some j) ∧ Fr no W wr ∧ Fr no w2 wr) := ⟨hj, gw, hw⟩
        have HBX : Hid (∀ w', Fr no wr w' → w'.heap[w.heap.size]? = some (.cells #[.string x.k.name, .string x.k.super, .slice x.k.p.a x.k.p.n x.k.p.c, .slice x.k.f.a x.k.f.n x.k.f.c, .slice x.k.m.a x.k.m.n x.k.m.c, .slice x.s.a x.s.n x.s.c, .int .i64 x.wd, .map (some x.fm), .map (some x.mm)] 119 (0, 0))) := fun w' hf => (HP.out w' (gw.new hf (fun _ _ f => f))).2.2.1
        have HS0 : Hid (Fr no wr wr.drew) := (Fr.refl no wr).drew
        have HXC : Hid (∀ w', Fr no wr w' → ClAt w' x.k (clsAt Cs i)) := fun w' hf => (HP.out w' (gw.new hf (fun _ _ f => f))).2.1
        clear hj hw gw
        go_wp2_with fail
        refine late_begin (S := fun w' => Fr no wr w') (g := 5) (by kernel_rfl) ?_
        refine late_pure 0 (.pointer (some ⟨w.heap.size, 0, none⟩)) rfl (by kernel_rfl) (by kernel_rfl) (by kernel_rfl) (fun _ _ _ h => h) (by decide) (yields rfl (fun _ _ => ev_field 119 3 0 (.pointer (some ⟨w.heap.size, 0, none⟩)) _ rfl (by kernel_rfl) (by kernel_rfl))) (fun _ => HS0.out) ?_
        refine late_take 1 (.agg #[.string x.k.name, .string x.k.super, .slice x.k.p.a x.k.p.n x.k.p.c, .slice x.k.f.a x.k.f.n x.k.f.c, .slice x.k.m.a x.k.m.n x.k.m.c]) rfl (by kernel_rfl) (by kernel_rfl) (by kernel_rfl) (fun _ _ _ h => h) (waits_of (by kernel_rfl)) (by decide) (by kernel_rfl) (yields rfl (fun w' hS => ev_load 68 30 (.pointer (some ⟨w.heap.size, 0, none⟩)) _ rfl (by kernel_rfl) (load_at w' _ 0 68 119 [.string x.k.name, .string x.k.super, .slice x.k.p.a x.k.p.n x.k.p.c, .slice x.k.f.a x.k.f.n x.k.f.c, .slice x.k.m.a x.k.m.n x.k.m.c] _ _ (HBX.out w' hS) (fun j v hv => by match j, hv with | 0, hv => exact hv | 1, hv => exact hv | 2, hv => exact hv | 3, hv => exact hv | 4, hv => exact hv | n + 5, hv => simp at hv) Tryz.underlying68 rfl (by kernel_rfl)))) HS0.out ?_
        refine late_pure 2 (.pointer (some ⟨p, 0, none⟩)) rfl (by kernel_rfl) (by kernel_rfl) (by kernel_rfl) (fun _ _ _ h => h) (by decide) (yields rfl (fun _ _ => ev_move 0 _ rfl (by kernel_rfl))) (fun _ => HS0.out) ?_
        refine late_pure 3 (.string (clsAt Cs j).name) rfl (by kernel_rfl) (by kernel_rfl) (by kernel_rfl) (fun _ _ _ h => h) (by decide) (yields rfl (fun _ _ => ev_move 7 _ rfl (by kernel_rfl))) (fun _ => HS0.out) ?_
        refine late_all [4] (by kernel_rfl) (by simp) (fun jj hjj => ?_)
        obtain rfl := one_of hjj
        refine late_call (f := 89) rfl rfl (by kernel_rfl) (R := fun v w' => ∃ sj, v = ksV sj ∧ ClAt w' sj (clsAt Cs j) ∧ Fr no wr.drew w') (NA.mono (fun e w' ⟨sj, h1, h2, h3⟩ => ⟨_, h1, sj, rfl, h2, h3⟩)) (fun v w3 hv => ?_)
        obtain ⟨sj, rfl, cj, f3⟩ := hv
        have g3 : Fr no wr w3 := (Fr.refl no wr).drew.new f3 (fun _ _ f => f)
        refine ⟨fun _ => g3, ?_⟩
        have SF := shareField_any w3 x.k sj (clsAt Cs i) (clsAt Cs j) (HXC.out w3 g3) cj
        unfold ksV
        refine late_all [5] (by kernel_rfl) (by simp) (fun jj hjj => ?_)
        obtain rfl := one_of hjj
        refine late_call (f := 91) rfl rfl (by kernel_rfl) (R := fun v w' => v = .bool (shares (clsAt Cs i) (clsAt Cs j)) ∧ Fr no w3 w') (SF.mono (fun e w' ⟨h1, h2⟩ => ⟨_, h1, rfl, h2⟩)) (fun v w4 hv => ?_)
        obtain ⟨rfl, f4⟩ := hv
        have g4 : Fr no wr w4 := g3.new f4 (fun _ _ f => f)
        refine ⟨(fun h => Bool.noConfusion (show true = false from h)), ?_⟩
        refine late_done (by kernel_rfl) ?_
        clear SF NA cj f3 f4 g3
        cases hb : shares (clsAt Cs i) (clsAt Cs j) with
        | true =>
          have HT : Hid ((above Cs A i).any (shares (clsAt Cs i)) = true) := by
            show _ = _
            rw [HAB.out]
            exact List.any_eq_true.2 ⟨_, List.mem_map_of_mem (List.mem_of_getElem? HJ.out.1), hb⟩
          clear hb
          go_wp2_with fail
          go_ret
          rw [HN0.out, if_pos HT.out]
          exact ⟨rfl, HG.out.new (HJ.out.2.1.new g4 (fun _ _ f => f)) (fun _ _ f => f)⟩
        | false =>
          have HT : Hid ((((U.drop 1).take (k + 1)).any fun j => shares (clsAt Cs i) (clsAt Cs j)) = false) := by
            show _ = _
            rw [take_next _ k j HJ.out.1, List.any_append, HA.out]
            simp only [List.any_cons, List.any_nil, Bool.or_false, Bool.false_or]
            exact hb
          clear hb
          go_wp2_with fail
          go_roundw
          case rel => exact ⟨k + 1, by go_num, by omega, HJ.out.2.2.new g4 (fun _ _ f => f), HT.out⟩
          case measure => simp [intOf]; omega
      · have hkn : nl = k := by omega
        subst hkn
        have HT : Hid ((above Cs A i).any (shares (clsAt Cs i)) = false) := by
          have := HA.out
          rw [← HNL.out, List.take_length] at this
          show _ = _
          rw [HAB.out, List.any_map]
          exact this
        have HTA : Hid (_) := HT
        have HST : Hid (Fr no w2 wr) := hw
        clear hw hlt hk HA HT
        go_wp2_with fail
        go_loopw [39] (fun t wr => ∃ (k : Nat), t = .int .i64 (k : Int) ∧ k ≤ nl ∧ Fr no w2 wr ∧ (((U.drop 1).take k).any fun j => differ (clsAt Cs i) (clsAt Cs j)) = false) (fun t _ => nl - (intOf t).toNat)
        case atStart => exact ⟨0, rfl, by omega, HST.out, by simp⟩
        case round =>
          obtain ⟨k, rfl, hk, hw, hall⟩ := hrel
          have HA : Hid ((((U.drop 1).take k).any fun j => differ (clsAt Cs i) (clsAt Cs j)) = false) := hall
          clear hall
          by_cases hlt : k < nl
          · have hki : (k : Int) < (nl : Int) := by omega
            obtain ⟨j, hj⟩ : ∃ j, (U.drop 1)[k]? = some j := ⟨_, List.getElem?_eq_getElem (by rw [← HNL.out] at hlt; exact hlt)⟩
            have hcw := HWAY.out wr hw k j hj
            have hjc := (HW.out k j hj).1
            have gw : Fr no W wr := HG2.out.new hw (fun _ _ f => f)
            have NA := namedP_any wr.drew p Cs A (HP.out wr.drew gw.drew).1 j hjc
            have HJ : Hid (((U.drop 1)[k]? = some j) ∧ Fr no W wr ∧ Fr no w2 wr) := ⟨hj, gw, hw⟩
            have HBX : Hid (∀ w', Fr no wr w' → w'.heap[w.heap.size]? = some (.cells #[.string x.k.name, .string x.k.super, .slice x.k.p.a x.k.p.n x.k.p.c, .slice x.k.f.a x.k.f.n x.k.f.c, .slice x.k.m.a x.k.m.n x.k.m.c, .slice x.s.a x.s.n x.s.c, .int .i64 x.wd, .map (some x.fm), .map (some x.mm)] 119 (0, 0))) := fun w' hf => (HP.out w' (gw.new hf (fun _ _ f => f))).2.2.1
            have HS0 : Hid (Fr no wr wr.drew) := (Fr.refl no wr).drew
            have HXC : Hid (∀ w', Fr no wr w' → ClAt w' x.k (clsAt Cs i)) := fun w' hf => (HP.out w' (gw.new hf (fun _ _ f => f))).2.1
            clear hj hw gw
            go_wp2_with fail
            refine late_begin (S := fun w' => Fr no wr w') (g := 5) (by kernel_rfl) ?_
            refine late_pure 0 (.pointer (some ⟨w.heap.size, 0, none⟩)) rfl (by kernel_rfl) (by kernel_rfl) (by kernel_rfl) (fun _ _ _ h => h) (by decide) (yields rfl (fun _ _ => ev_field 119 3 0 (.pointer (some ⟨w.heap.size, 0, none⟩)) _ rfl (by kernel_rfl) (by kernel_rfl))) (fun _ => HS0.out) ?_
            refine late_take 1 (.agg #[.string x.k.name, .string x.k.super, .slice x.k.p.a x.k.p.n x.k.p.c, .slice x.k.f.a x.k.f.n x.k.f.c, .slice x.k.m.a x.k.m.n x.k.m.c]) rfl (by kernel_rfl) (by kernel_rfl) (by kernel_rfl) (fun _ _ _ h => h) (waits_of (by kernel_rfl)) (by decide) (by kernel_rfl) (yields rfl (fun w' hS => ev_load 68 43 (.pointer (some ⟨w.heap.size, 0, none⟩)) _ rfl (by kernel_rfl) (load_at w' _ 0 68 119 [.string x.k.name, .string x.k.super, .slice x.k.p.a x.k.p.n x.k.p.c, .slice x.k.f.a x.k.f.n x.k.f.c, .slice x.k.m.a x.k.m.n x.k.m.c] _ _ (HBX.out w' hS) (fun j v hv => by match j, hv with | 0, hv => exact hv | 1, hv => exact hv | 2, hv => exact hv | 3, hv => exact hv | 4, hv => exact hv | n + 5, hv => simp at hv) Tryz.underlying68 rfl (by kernel_rfl)))) HS0.out ?_
            refine late_pure 2 (.pointer (some ⟨p, 0, none⟩)) rfl (by kernel_rfl) (by kernel_rfl) (by kernel_rfl) (fun _ _ _ h => h) (by decide) (yields rfl (fun _ _ => ev_move 0 _ rfl (by kernel_rfl))) (fun _ => HS0.out) ?_
            refine late_pure 3 (.string (clsAt Cs j).name) rfl (by kernel_rfl) (by kernel_rfl) (by kernel_rfl) (fun _ _ _ h => h) (by decide) (yields rfl (fun _ _ => ev_move 9 _ rfl (by kernel_rfl))) (fun _ => HS0.out) ?_
            refine late_all [4] (by kernel_rfl) (by simp) (fun jj hjj => ?_)
            obtain rfl := one_of hjj
            refine late_call (f := 89) rfl rfl (by kernel_rfl) (R := fun v w' => ∃ sj, v = ksV sj ∧ ClAt w' sj (clsAt Cs j) ∧ Fr no wr.drew w') (NA.mono (fun e w' ⟨sj, h1, h2, h3⟩ => ⟨_, h1, sj, rfl, h2, h3⟩)) (fun v w3 hv => ?_)
            obtain ⟨sj, rfl, cj, f3⟩ := hv
            have g3 : Fr no wr w3 := (Fr.refl no wr).drew.new f3 (fun _ _ f => f)
            refine ⟨fun _ => g3, ?_⟩
            have SF := methodsDiffer_any w3 x.k sj (clsAt Cs i) (clsAt Cs j) (HXC.out w3 g3) cj
            unfold ksV
            refine late_all [5] (by kernel_rfl) (by simp) (fun jj hjj => ?_)
            obtain rfl := one_of hjj
            refine late_call (f := 92) rfl rfl (by kernel_rfl) (R := fun v w' => v = .bool (differ (clsAt Cs i) (clsAt Cs j)) ∧ Fr no w3 w') (SF.mono (fun e w' ⟨h1, h2⟩ => ⟨_, h1, rfl, h2⟩)) (fun v w4 hv => ?_)
            obtain ⟨rfl, f4⟩ := hv
            have g4 : Fr no wr w4 := g3.new f4 (fun _ _ f => f)
            refine ⟨(fun h => Bool.noConfusion (show true = false from h)), ?_⟩
            refine late_done (by kernel_rfl) ?_
            clear SF NA cj f3 f4 g3
            cases hb : differ (clsAt Cs i) (clsAt Cs j) with
            | true =>
              have HT : Hid ((above Cs A i).any (differ (clsAt Cs i)) = true) := by
                show _ = _
                rw [HAB.out]
                exact List.any_eq_true.2 ⟨_, List.mem_map_of_mem (List.mem_of_getElem? HJ.out.1), hb⟩
              clear hb
              go_wp2_with fail
              go_ret
              rw [HN0.out, if_neg (by rw [HTA.out]; simp), if_pos HT.out]
              exact ⟨rfl, HG.out.new (HJ.out.2.1.new g4 (fun _ _ f => f)) (fun _ _ f => f)⟩
            | false =>
              have HT : Hid ((((U.drop 1).take (k + 1)).any fun j => differ (clsAt Cs i) (clsAt Cs j)) = false) := by
                show _ = _
                rw [take_next _ k j HJ.out.1, List.any_append, HA.out]
                simp only [List.any_cons, List.any_nil, Bool.or_false, Bool.false_or]
                exact hb
              clear hb
              go_wp2_with fail
              go_roundw
              case rel => exact ⟨k + 1, by go_num, by omega, HJ.out.2.2.new g4 (fun _ _ f => f), HT.out⟩
              case measure => simp [intOf]; omega
          · have hkn : nl = k := by omega
            subst hkn
            have HT : Hid ((above Cs A i).any (differ (clsAt Cs i)) = false) := by
              have := HA.out
              rw [← HNL.out, List.take_length] at this
              show _ = _
              rw [HAB.out, List.any_map]
              exact this
            go_wp2_with fail
            go_ret
            rw [HN0.out, if_neg (by rw [HTA.out]; simp), if_neg (by rw [HT.out]; simp)]
            exact ⟨rfl, HG.out.new (HG2.out.new hw (fun _ _ f => f)) (fun _ _ f => f)⟩
end Go.Proofs.YtpfkigoffllieaaGreatDoor

/- The slot of a field. -/
namespace Go.Proofs.YtpfkigoffllieaaGreatDoor
open Go.ChangeShapes Go.WideShapes Go.ChangeAt Go.RowKit
open H (ky Owns MapOf ix up nameAt anc Fine obj fault)

/-- The places of fields are places of slots. -/
def FmOk (y : Li) : Prop := ∀ n k, y.fm n = some k → k < y.slots.length
theorem fmOk_0 (c : Cl) : FmOk (li0 c) := fun n k h => by simp [li0] at h
theorem fmOk_f {y : Li} (h : FmOk y) (cn : ByteArray) (f : Fd) : FmOk (takeF cn y f) := fun n k hk => by
  simp only [takeF] at hk ⊢
  split at hk
  · simp only [Option.some.injEq] at hk
    simp
    omega
  · have := h n k hk
    simp
    omega
theorem fmOk_fs (cn : ByteArray) : ∀ (l : List Fd) {y : Li}, FmOk y → FmOk (takeFs cn y l)
  | [], _, h => h
  | f :: r, _, h => fmOk_fs cn r (fmOk_f h cn f)
theorem fmOk_ms (num : Nat) : ∀ (l : List Mt) (a : Nat) {y : Li}, FmOk y → FmOk (takeMs num a y l)
  | [], _, _, h => h
  | _ :: r, a, _, h => fmOk_ms num r (a + 1) h
theorem fmOk_n (Cs : List Cl) : ∀ (l : List Nat) {y : Li}, FmOk y → FmOk (layN Cs y l)
  | [], _, h => h
  | _ :: r, _, h => fmOk_n Cs r (fmOk_ms _ _ _ (fmOk_fs _ _ h))
theorem fmOk_lay (Cs : List Cl) (A : List Nat) (i : Nat) : FmOk (lay Cs A i) := fmOk_n _ _ (fmOk_0 _)

def zSlt : Slt := ⟨⟨#[]⟩, ⟨⟨#[]⟩, ⟨0, ⟨#[]⟩⟩, false⟩, 0⟩

theorem results_9 (w : World) (r : Nat) (x0 x1 x2 x3 x4 x5 y : Value) (h : w.heap[r]? = some (.cells #[x0, x1, x2, x3, x4, x5] 182 (0, 0))) (tmps : Array Value) (h2 : tmps.getD 6 undef = .pointer (some ⟨r, 0, none⟩)) (h3 : tmps.getD 7 undef = y) :
    (results Tryz.f137 tmps).run Tryz.prog w = .ok (.tuple #[.agg #[x0, x1, x2, x3, x4, x5], y]) w := by
  have hl : (loadVar 182 ⟨r, 0, none⟩).run Tryz.prog w = .ok (.agg #[x0, x1, x2, x3, x4, x5]) w := run_loadVar_row (P := Tryz.prog) w r 182 182 #[x0, x1, x2, x3, x4, x5] (0, 0) _ h Tryz.underlying182 rfl (by kernel_rfl)
  have h2' : tmps[6]?.getD undef = .pointer (some ⟨r, 0, none⟩) := by simpa using h2
  have h3' : tmps[7]?.getD undef = y := by simpa using h3
  simp [results, asAddr, h2', h3', hl]

def slV (t : Slt) : Value := .agg #[.string t.cls, .string t.f.name, .int .i64 t.f.ty.k, .string t.f.ty.c, .bool t.f.vol, .int .i64 t.at']

theorem box6 {w : World} {q : Nat} {a0 a1 a2 a3 a4 a5 : Value} {t : TypeId} (h : w.heap[q]? = some (.cells #[a0, a1, a2, a3, a4, a5] t (0, 0))) :
    w.cell? ⟨q, 0, none⟩ = some a0 ∧ w.cell? ⟨q, 1, none⟩ = some a1 ∧ w.cell? ⟨q, 2, none⟩ = some a2 ∧ w.cell? ⟨q, 3, none⟩ = some a3 ∧ w.cell? ⟨q, 4, none⟩ = some a4 ∧ w.cell? ⟨q, 5, none⟩ = some a5 := by
  refine ⟨?_, ?_, ?_, ?_, ?_, ?_⟩ <;> simp [World.cell?, h]

set_option maxRecDepth 100000 in
set_option maxHeartbeats 2000000 in
theorem field_any (w : World) (p : Nat) (Cs : List Cl) (A : List Nat) (h : Prg w p Cs A) (cl s : ByteArray) (hcl : cl.size ≤ 1099511627776) (hs : s.size ≤ 1099511627776) :
    Calls Tryz.prog 137 #[.pointer (some ⟨p, 0, none⟩), .string cl, .string s] w fun e w' => ∃ t, e = .returned (.tuple #[slV t, .bool (fieldOf (namesOf Cs) (layAll Cs A) cl s).isSome]) ∧ (∀ t', fieldOf (namesOf Cs) (layAll Cs A) cl s = some t' → t = t') ∧ (fieldOf (namesOf Cs) (layAll Cs A) cl s = none → t = zSlt) ∧ Fr no w w' := by
  obtain ⟨w0, hp, m, v, X, ch, P, -⟩ := h.ex
  have G0 : Fr no w (w.alloc (.cells #[.string ⟨#[]⟩, .string ⟨#[]⟩, .int .i64 0, .string ⟨#[]⟩, .bool false, .int .i64 0] 182)) := (Fr.refl no w).alloc _ _
  have E0 : (w.alloc (.cells #[.string ⟨#[]⟩, .string ⟨#[]⟩, .int .i64 0, .string ⟨#[]⟩, .bool false, .int .i64 0] 182)).heap[w.heap.size]? = some (.cells #[.string ⟨#[]⟩, .string ⟨#[]⟩, .int .i64 0, .string ⟨#[]⟩, .bool false, .int .i64 0] 182 (0, 0)) := heap_alloc_new w _
  have P0 := P.keep G0
  obtain ⟨c, hl, -, hc⟩ := P0.look cl hcl
  rw [layAll_names] at hl hc
  obtain ⟨qv, cv, rfl⟩ := P.form
  rw [layAll_len] at P0 P
  obtain ⟨-, b1, b2⟩ := cells3 P0.pb
  have HE : Hid (_ ∧ _) := ⟨E0, G0⟩
  unfold slV
  cases hi : ix cl (namesOf Cs) with
  | none =>
    have HN : Hid (fieldOf (namesOf Cs) (layAll Cs A) cl s = none) := by show _ = _; unfold fieldOf; rw [hi]
    rw [hi] at hl
    simp only [Option.isSome_none] at hl
    obtain ⟨z0, z1, z2, z3, z4, z5⟩ := box6 E0
    have fz := fun o => frozen_at (o := o) E0
    clear P P0 hc hi h E0 G0
    have HC : Hid (_) := chain6 HE.out.1 (.string ⟨#[]⟩) (.string ⟨#[]⟩) (.int .i64 0) (.string ⟨#[]⟩) (.bool false) (.int .i64 0)
    have HFC : Hid (_) := frc6 (w.alloc (.cells #[.string ⟨#[]⟩, .string ⟨#[]⟩, .int .i64 0, .string ⟨#[]⟩, .bool false, .int .i64 0] 182)) w.heap.size (.string ⟨#[]⟩) (.string ⟨#[]⟩) (.int .i64 0) (.string ⟨#[]⟩) (.bool false) (.int .i64 0)
    generalize hW : w.alloc (.cells #[.string ⟨#[]⟩, .string ⟨#[]⟩, .int .i64 0, .string ⟨#[]⟩, .bool false, .int .i64 0] 182) = W at *
    go_enter Tryz.func137, Tryz.ntmps137
    go_wp2_with fail
    generalize hV : (((((W.setCell ⟨w.heap.size, 0, none⟩ (.string ⟨#[]⟩)).setCell ⟨w.heap.size, 1, none⟩ (.string ⟨#[]⟩)).setCell ⟨w.heap.size, 2, none⟩ (.int .i64 0)).setCell ⟨w.heap.size, 3, none⟩ (.string ⟨#[]⟩)).setCell ⟨w.heap.size, 4, none⟩ (.bool false)).setCell ⟨w.heap.size, 5, none⟩ (.int .i64 0) = V at *
    refine bodyPost_ret (results_9 V w.heap.size (.string ⟨#[]⟩) (.string ⟨#[]⟩) (.int .i64 0) (.string ⟨#[]⟩) (.bool false) (.int .i64 0) (.bool false) HC.out _ rfl rfl) rfl ?_
    rw [HN.out]
    exact ⟨zSlt, rfl, fun t ht => by simp at ht, fun _ => rfl, HE.out.2.new HFC.out (fun i hi e => by omega)⟩
  | some i =>
    have hil : i < Cs.length := by have := H.ix_lt hi; simpa [namesOf] using this
    obtain ⟨x, y, hx, hy, L⟩ := P0.get (i := i) (by rw [layAll_len]; exact hil)
    obtain ⟨xk, ⟨sa, sn, sc⟩, wd, xf, xm⟩ := x
    have hyl : y = lay Cs A i := by
      rw [layAll_get hil] at hy
      simpa using hy.symm
    obtain rfl := hc i hi
    rw [hi] at hl
    simp only [Option.isSome_some] at hl
    obtain ⟨g, rfl⟩ := P0.row.some_of (fun e => by rw [e] at hx; simp at hx)
    have d : ∀ j u, (lkC ⟨xk, ⟨sa, sn, sc⟩, wd, xf, xm⟩)[j]? = some u → _ := fun j u hj => P0.row.cell okLk hx hj
    have d0 := d 0 _ rfl
    have d1 := d 1 _ rfl
    have d2 := d 2 _ rfl
    have d3 := d 3 _ rfl
    have d4 := d 4 _ rfl
    have d5 := d 5 _ rfl
    have d6 := d 6 _ rfl
    have d7 := d 7 _ rfl
    have d8 := d 8 _ rfl
    simp only [elLk, Nat.add_zero] at d0 d1 d2 d3 d4 d5 d6 d7 d8
    have hii : (i : Int) < (Cs.length : Int) := by omega
    have G2 : Fr no (w.alloc (.cells #[.string ⟨#[]⟩, .string ⟨#[]⟩, .int .i64 0, .string ⟨#[]⟩, .bool false, .int .i64 0] 182)) ((w.alloc (.cells #[.string ⟨#[]⟩, .string ⟨#[]⟩, .int .i64 0, .string ⟨#[]⟩, .bool false, .int .i64 0] 182)).alloc (.cells #[.string xk.name, .string xk.super, .slice xk.p.a xk.p.n xk.p.c, .slice xk.f.a xk.f.n xk.f.c, .slice xk.m.a xk.m.n xk.m.c, .slice sa sn sc, .int .i64 wd, .map (some xf), .map (some xm)] 119)) := (Fr.refl no _).alloc _ _
    have E2 := G2.heap E0 (fun f => f)
    have B2 : ((w.alloc (.cells #[.string ⟨#[]⟩, .string ⟨#[]⟩, .int .i64 0, .string ⟨#[]⟩, .bool false, .int .i64 0] 182)).alloc (.cells #[.string xk.name, .string xk.super, .slice xk.p.a xk.p.n xk.p.c, .slice xk.f.a xk.f.n xk.f.c, .slice xk.m.a xk.m.n xk.m.c, .slice sa sn sc, .int .i64 wd, .map (some xf), .map (some xm)] 119)).heap[(w.alloc (.cells #[.string ⟨#[]⟩, .string ⟨#[]⟩, .int .i64 0, .string ⟨#[]⟩, .bool false, .int .i64 0] 182)).heap.size]? = some (.cells #[.string xk.name, .string xk.super, .slice xk.p.a xk.p.n xk.p.c, .slice xk.f.a xk.f.n xk.f.c, .slice xk.m.a xk.m.n xk.m.c, .slice sa sn sc, .int .i64 wd, .map (some xf), .map (some xm)] 119 (0, 0)) := heap_alloc_new _ _
    have L2 := L.keep G2
    obtain ⟨D, q1, q2⟩ := L2.f
    obtain ⟨a, hl2, -, ha⟩ := lookI q1 q2 s hs
    have y3 := cell_at (o := 7) B2
    have y1 := cell_at (o := 5) B2
    obtain ⟨z0, z1, z2, z3, z4, z5⟩ := box6 E2
    have fz := fun o => frozen_at (o := o) E2
    simp only [List.getElem?_toArray, List.getElem?_cons_zero, List.getElem?_cons_succ] at y1 y3
    have sz : (w.alloc (.cells #[.string ⟨#[]⟩, .string ⟨#[]⟩, .int .i64 0, .string ⟨#[]⟩, .bool false, .int .i64 0] 182)).heap.size = w.heap.size + 1 := by simp
    rw [sz] at y1 y3
    have HG2 : Hid (_) := G2
    have HE2 : Hid (_) := E2
    cases hfm : y.fm s with
    | none =>
      have HN : Hid (fieldOf (namesOf Cs) (layAll Cs A) cl s = none) := by show _ = _; unfold fieldOf; rw [hi]; simp only [hy, hfm]
      rw [hfm] at hl2
      simp only [Option.isSome_none] at hl2
      clear P P0 hc hi h L L2 q1 q2 ha hy hx hil hyl hfm d E0 G0 G2 E2 B2
      have HC : Hid (_) := chain6 HE2.out (.string ⟨#[]⟩) (.string ⟨#[]⟩) (.int .i64 0) (.string ⟨#[]⟩) (.bool false) (.int .i64 0)
      have HFC : Hid (_) := frc6 ((w.alloc (.cells #[.string ⟨#[]⟩, .string ⟨#[]⟩, .int .i64 0, .string ⟨#[]⟩, .bool false, .int .i64 0] 182)).alloc (.cells #[.string xk.name, .string xk.super, .slice xk.p.a xk.p.n xk.p.c, .slice xk.f.a xk.f.n xk.f.c, .slice xk.m.a xk.m.n xk.m.c, .slice sa sn sc, .int .i64 wd, .map (some xf), .map (some xm)] 119)) w.heap.size (.string ⟨#[]⟩) (.string ⟨#[]⟩) (.int .i64 0) (.string ⟨#[]⟩) (.bool false) (.int .i64 0)
      generalize hW : w.alloc (.cells #[.string ⟨#[]⟩, .string ⟨#[]⟩, .int .i64 0, .string ⟨#[]⟩, .bool false, .int .i64 0] 182) = W at *
      generalize hW2 : W.alloc (.cells #[.string xk.name, .string xk.super, .slice xk.p.a xk.p.n xk.p.c, .slice xk.f.a xk.f.n xk.f.c, .slice xk.m.a xk.m.n xk.m.c, .slice sa sn sc, .int .i64 wd, .map (some xf), .map (some xm)] 119) = W2 at *
      generalize hcl2 : Cs.length = n at *
      go_enter Tryz.func137, Tryz.ntmps137
      go_wp2_with fail
      generalize hV : (((((W2.setCell ⟨w.heap.size, 0, none⟩ (.string ⟨#[]⟩)).setCell ⟨w.heap.size, 1, none⟩ (.string ⟨#[]⟩)).setCell ⟨w.heap.size, 2, none⟩ (.int .i64 0)).setCell ⟨w.heap.size, 3, none⟩ (.string ⟨#[]⟩)).setCell ⟨w.heap.size, 4, none⟩ (.bool false)).setCell ⟨w.heap.size, 5, none⟩ (.int .i64 0) = V at *
      refine bodyPost_ret (results_9 V w.heap.size (.string ⟨#[]⟩) (.string ⟨#[]⟩) (.int .i64 0) (.string ⟨#[]⟩) (.bool false) (.int .i64 0) (.bool false) HC.out _ rfl rfl) rfl ?_
      rw [HN.out]
      exact ⟨zSlt, rfl, fun t ht => by simp at ht, fun _ => rfl, (HE.out.2.new HG2.out (fun _ _ f => f)).new HFC.out (fun i hi e => by omega)⟩
    | some k =>
      have hkl : k < y.slots.length := by rw [hyl] at hfm ⊢; exact fmOk_lay Cs A i s k hfm
      obtain ⟨t, ht⟩ : ∃ t, y.slots[k]? = some t := ⟨_, List.getElem?_eq_getElem hkl⟩
      have HN : Hid (fieldOf (namesOf Cs) (layAll Cs A) cl s = some t) := by show _ = _; unfold fieldOf; rw [hi]; simp only [hy, hfm]; exact ht
      rw [hfm] at hl2
      simp only [Option.isSome_some] at hl2
      obtain rfl := ha k hfm
      have OS := L2.s
      obtain ⟨qs, cs', es⟩ := OS.form
      simp only [Value.slice.injEq] at es
      obtain ⟨-, es2, -⟩ := es
      subst es2
      obtain ⟨gs, hgs⟩ := OS.some_of (fun e => by rw [e] at ht; simp at ht)
      simp only [] at hgs OS
      subst hgs
      have dd : ∀ j u, (slC t)[j]? = some u → _ := fun j u hj => OS.cell okSt ht hj
      have t0 := dd 0 _ rfl
      have t1 := dd 1 _ rfl
      have t2 := dd 2 _ rfl
      have t3 := dd 3 _ rfl
      have t4 := dd 4 _ rfl
      have t5 := dd 5 _ rfl
      simp only [elSt, Nat.add_zero] at t0 t1 t2 t3 t4 t5
      have hki : (k : Int) < (y.slots.length : Int) := by omega
      clear P P0 hc hi h L L2 q1 q2 ha hy hx hil hyl hfm d E0 G0 G2 E2 B2 OS dd ht
      generalize hsl : y.slots.length = sl at *
      have HC : Hid (_) := chain6 HE2.out (.string t.cls) (.string t.f.name) (.int .i64 t.f.ty.k) (.string t.f.ty.c) (.bool t.f.vol) (.int .i64 t.at')
      have HFC : Hid (_) := frc6 ((w.alloc (.cells #[.string ⟨#[]⟩, .string ⟨#[]⟩, .int .i64 0, .string ⟨#[]⟩, .bool false, .int .i64 0] 182)).alloc (.cells #[.string xk.name, .string xk.super, .slice xk.p.a xk.p.n xk.p.c, .slice xk.f.a xk.f.n xk.f.c, .slice xk.m.a xk.m.n xk.m.c, .slice (some ⟨gs, 0, none⟩) sl sc, .int .i64 wd, .map (some xf), .map (some xm)] 119)) w.heap.size (.string t.cls) (.string t.f.name) (.int .i64 t.f.ty.k) (.string t.f.ty.c) (.bool t.f.vol) (.int .i64 t.at')
      generalize hW : w.alloc (.cells #[.string ⟨#[]⟩, .string ⟨#[]⟩, .int .i64 0, .string ⟨#[]⟩, .bool false, .int .i64 0] 182) = W at *
      generalize hW2 : W.alloc (.cells #[.string xk.name, .string xk.super, .slice xk.p.a xk.p.n xk.p.c, .slice xk.f.a xk.f.n xk.f.c, .slice xk.m.a xk.m.n xk.m.c, .slice (some ⟨gs, 0, none⟩) sl sc, .int .i64 wd, .map (some xf), .map (some xm)] 119) = W2 at *
      generalize hcl2 : Cs.length = n at *
      go_enter Tryz.func137, Tryz.ntmps137
      go_wp2_with fail
      generalize hV : (((((W2.setCell ⟨w.heap.size, 0, none⟩ (.string t.cls)).setCell ⟨w.heap.size, 1, none⟩ (.string t.f.name)).setCell ⟨w.heap.size, 2, none⟩ (.int .i64 t.f.ty.k)).setCell ⟨w.heap.size, 3, none⟩ (.string t.f.ty.c)).setCell ⟨w.heap.size, 4, none⟩ (.bool t.f.vol)).setCell ⟨w.heap.size, 5, none⟩ (.int .i64 t.at') = V at *
      refine bodyPost_ret (results_9 V w.heap.size (.string t.cls) (.string t.f.name) (.int .i64 t.f.ty.k) (.string t.f.ty.c) (.bool t.f.vol) (.int .i64 t.at') (.bool true) HC.out _ rfl rfl) rfl ?_
      rw [HN.out]
      exact ⟨t, rfl, fun t' ht' => by simpa using ht', fun e => by simp at e, (HE.out.2.new HG2.out (fun _ _ f => f)).new HFC.out (fun i hi e => by omega)⟩
end Go.Proofs.YtpfkigoffllieaaGreatDoor

/- Whether what a constant names is there. -/
namespace Go.Proofs.YtpfkigoffllieaaGreatDoor
open Go.ChangeShapes Go.WideShapes Go.ChangeAt Go.RowKit
open H (ky Owns MapOf ix up nameAt anc Fine obj fault)

/-- Whether the class that a constant names has what it names. -/
def memB (N : List ByteArray) (L : List Li) (x : Cs) : Bool := if x.k = 4 then (fieldOf N L x.c x.m).isSome else if x.k = 5 then (findOf N L x.c x.m).isSome else true

theorem constE_eq (N : List ByteArray) (L : List Li) (x : Cs) : constE N L x = if x.k = 1 ∨ x.k = 2 then 0 else if (ix x.c N).isSome = false then 70 else if memB N L x = true then 0 else 72 := by
  unfold constE memB
  by_cases h1 : x.k = 1 ∨ x.k = 2
  · rw [if_pos h1, if_pos h1]
  · rw [if_neg h1, if_neg h1]
    by_cases h2 : (ix x.c N).isSome = false
    · rw [if_pos h2, if_pos h2]
    · rw [if_neg h2, if_neg h2]
      by_cases h4 : x.k = 4
      · rw [if_pos h4, if_pos h4]
      · rw [if_neg h4, if_neg h4]
        by_cases h5 : x.k = 5
        · rw [if_pos h5, if_pos h5]
        · rw [if_neg h5, if_neg h5, if_pos rfl]

set_option maxRecDepth 100000 in
set_option maxHeartbeats 1000000 in
theorem hasMember_any (w : World) (p : Nat) (x : Cs) (hc : fitS x.c) (hm : fitS x.m) (Cs : List Cl) (A : List Nat) (h : Prg w p Cs A) :
    Calls Tryz.prog 119 #[.pointer (some ⟨p, 0, none⟩), .agg #[.int .i64 x.k, .int .i64 x.n, .complex .f64 x.re x.im, .string x.c, .string x.m]] w fun e w' => e = .returned (.bool (memB (namesOf Cs) (layAll Cs A) x)) ∧ Fr no w w' := by
  have G0 : Fr no w (w.alloc (.cells #[.int .i64 x.k, .int .i64 x.n, .complex .f64 x.re x.im, .string x.c, .string x.m] 32)) := (Fr.refl no w).alloc _ _
  have E0 : (w.alloc (.cells #[.int .i64 x.k, .int .i64 x.n, .complex .f64 x.re x.im, .string x.c, .string x.m] 32)).heap[w.heap.size]? = some (.cells #[.int .i64 x.k, .int .i64 x.n, .complex .f64 x.re x.im, .string x.c, .string x.m] 32 (0, 0)) := heap_alloc_new w _
  have FA := field_any _ p Cs A (h.keep G0) x.c x.m hc hm
  have FI := find_any _ p Cs A (h.keep G0) x.c x.m hc hm
  obtain ⟨a0, a1, a2, a3, a4⟩ := box5 E0
  have HG : Hid (_) := G0
  clear h G0 E0
  generalize hW : w.alloc (.cells #[.int .i64 x.k, .int .i64 x.n, .complex .f64 x.re x.im, .string x.c, .string x.m] 32) = W at *
  unfold memB
  generalize hfo : fieldOf (namesOf Cs) (layAll Cs A) x.c x.m = fo at *
  generalize hfi : findOf (namesOf Cs) (layAll Cs A) x.c x.m = fi at *
  by_cases h4 : x.k = 4
  · rw [if_pos h4]
    rw [h4] at a0
    generalize hb : fo.isSome = b at *
    have HB : Hid (fo.isSome = b) := hb
    clear h4 hb FI
    go_enter Tryz.func119, Tryz.ntmps119
    go_wp2_with fail
    refine FA.mono ?_
    rintro e w1 ⟨t, rfl, -, -, f1⟩
    unfold slV
    go_wp2_with fail
    go_ret
    exact ⟨rfl, HG.out.new f1 (fun _ _ f => f)⟩
  · rw [if_neg h4]
    have h4' : (x.k == 4) = false := by simpa using h4
    by_cases h5 : x.k = 5
    · rw [if_pos h5]
      rw [h5] at a0 h4'
      generalize hb : fi.isSome = b at *
      clear h4 h5 FA hb h4'
      go_enter Tryz.func119, Tryz.ntmps119
      go_wp2_with fail
      refine FI.mono ?_
      rintro e w1 ⟨a, b', rfl, -, f1⟩
      go_wp2_with fail
      go_ret
      exact ⟨rfl, HG.out.new f1 (fun _ _ f => f)⟩
    · rw [if_neg h5]
      have h5' : (x.k == 5) = false := by simpa using h5
      clear FA FI
      go_enter Tryz.func119, Tryz.ntmps119
      go_wp2_with fail
      go_ret
      exact ⟨rfl, HG.out⟩

set_option maxRecDepth 100000 in
set_option maxHeartbeats 1000000 in
theorem checkConstP_any (w : World) (p : Nat) (x : Cs) (hc : fitS x.c) (hm : fitS x.m) (Cs : List Cl) (A : List Nat) (h : Prg w p Cs A) :
    Calls Tryz.prog 94 #[.pointer (some ⟨p, 0, none⟩), .agg #[.int .i64 x.k, .int .i64 x.n, .complex .f64 x.re x.im, .string x.c, .string x.m]] w fun e w' => e = .returned (.int .i64 (constE (namesOf Cs) (layAll Cs A) x : Int)) ∧ Fr no w w' := by
  obtain ⟨hp, b0, hh⟩ := h.hier
  have G0 : Fr no w (w.alloc (.cells #[.int .i64 x.k, .int .i64 x.n, .complex .f64 x.re x.im, .string x.c, .string x.m] 32)) := (Fr.refl no w).alloc _ _
  have E0 : (w.alloc (.cells #[.int .i64 x.k, .int .i64 x.n, .complex .f64 x.re x.im, .string x.c, .string x.m] 32)).heap[w.heap.size]? = some (.cells #[.int .i64 x.k, .int .i64 x.n, .complex .f64 x.re x.im, .string x.c, .string x.m] 32 (0, 0)) := heap_alloc_new w _
  obtain ⟨a0, a1, a2, a3, a4⟩ := box5 E0
  have b0' := G0.cell b0 (fun f => f)
  have HM : Hid (∀ w', Fr no (w.alloc (.cells #[.int .i64 x.k, .int .i64 x.n, .complex .f64 x.re x.im, .string x.c, .string x.m] 32)) w' → Calls Tryz.prog 119 #[.pointer (some ⟨p, 0, none⟩), .agg #[.int .i64 x.k, .int .i64 x.n, .complex .f64 x.re x.im, .string x.c, .string x.m]] w' fun e w2 => e = .returned (.bool (memB (namesOf Cs) (layAll Cs A) x)) ∧ Fr no w' w2) := fun w' hf => hasMember_any w' p x hc hm Cs A ((h.keep G0).keep hf)
  have HA : Hid (∀ w', Fr no (w.alloc (.cells #[.int .i64 x.k, .int .i64 x.n, .complex .f64 x.re x.im, .string x.c, .string x.m] 32)) w' → Calls Tryz.prog 82 #[.pointer (some ⟨hp, 0, none⟩), .string x.c] w' fun e w2 => e = .returned (.bool (ix x.c (namesOf Cs)).isSome) ∧ w2 = w') := fun w' hf => by
    obtain ⟨ch, hb⟩ := hh w' (G0.new hf (fun _ _ f => f))
    exact H.has_any w' hp _ A hb x.c hc
  have HG : Hid (_ ∧ _) := ⟨G0, E0⟩
  clear h hh G0 E0 b0
  generalize hW : w.alloc (.cells #[.int .i64 x.k, .int .i64 x.n, .complex .f64 x.re x.im, .string x.c, .string x.m] 32) = W at *
  rw [constE_eq]
  generalize hmb : memB (namesOf Cs) (layAll Cs A) x = mb at *
  generalize his : (ix x.c (namesOf Cs)).isSome = is at *
  have KS : Hid (∀ w2, Fr no W w2 → w2.cell? ⟨w.heap.size, 3, none⟩ = some (.string x.c) ∧ w2.cell? ⟨p, 0, none⟩ = some (.pointer (some ⟨hp, 0, none⟩))) := fun w2 f2 => ⟨f2.cell a3 (fun f => f), f2.cell b0' (fun f => f)⟩
  by_cases h1 : x.k = 1
  · rw [if_pos (.inl h1)]
    rw [h1] at a0
    clear h1
    go_enter Tryz.func94, Tryz.ntmps94
    go_wp2_with fail
    go_ret
    exact ⟨rfl, HG.out.1⟩
  · have h1' : (x.k == 1) = false := by simpa using h1
    by_cases h2 : x.k = 2
    · rw [if_pos (.inr h2)]
      rw [h2] at a0 h1'
      clear h1 h2 h1'
      go_enter Tryz.func94, Tryz.ntmps94
      go_wp2_with fail
      go_ret
      exact ⟨rfl, HG.out.1⟩
    · have h2' : (x.k == 2) = false := by simpa using h2
      rw [if_neg (fun e => e.elim h1 h2)]
      cases is with
      | false =>
        rw [if_pos rfl]
        clear h1 h2
        go_enter Tryz.func94, Tryz.ntmps94
        go_wp2_with fail
        go_region_held3 (fun w2 => w2.cell? ⟨w.heap.size, 3, none⟩ = some (.string x.c) ∧ w2.cell? ⟨p, 0, none⟩ = some (.pointer (some ⟨hp, 0, none⟩))) (with_reducible (first | exact KS.out _ (Fr.refl _ W).drew | assumption)) (first | (go_at_call 82; refine (HA.out _ (Fr.refl no W).drew).mono ?_; rintro e w3 ⟨rfl, rfl⟩))
        go_wp2_with fail
        go_ret
        exact ⟨rfl, HG.out.1.drew⟩
      | true =>
        rw [if_neg (by simp)]
        clear h1 h2
        have hbx := HG.out.2
        have k0 : W.drew.heap[w.heap.size]? = some (.cells #[.int .i64 x.k, .int .i64 x.n, .complex .f64 x.re x.im, .string x.c, .string x.m] 32 (0, 0)) := hbx
        clear hbx
        cases mb with
        | true =>
          rw [if_pos rfl]
          go_enter Tryz.func94, Tryz.ntmps94
          go_wp2_with fail
          go_region_held3 (fun w2 => w2.cell? ⟨w.heap.size, 3, none⟩ = some (.string x.c) ∧ w2.cell? ⟨p, 0, none⟩ = some (.pointer (some ⟨hp, 0, none⟩))) (with_reducible (first | exact KS.out _ (Fr.refl _ W).drew | assumption)) (first | (go_at_call 82; refine (HA.out _ (Fr.refl no W).drew).mono ?_; rintro e w3 ⟨rfl, rfl⟩))
          go_wp2_with fail
          refine (HM.out _ (Fr.refl no W).drew).mono ?_
          rintro e w4 ⟨rfl, f4⟩
          go_wp2_with fail
          go_ret
          exact ⟨rfl, HG.out.1.drew.new f4 (fun _ _ f => f)⟩
        | false =>
          rw [if_neg (by simp)]
          go_enter Tryz.func94, Tryz.ntmps94
          go_wp2_with fail
          go_region_held3 (fun w2 => w2.cell? ⟨w.heap.size, 3, none⟩ = some (.string x.c) ∧ w2.cell? ⟨p, 0, none⟩ = some (.pointer (some ⟨hp, 0, none⟩))) (with_reducible (first | exact KS.out _ (Fr.refl _ W).drew | assumption)) (first | (go_at_call 82; refine (HA.out _ (Fr.refl no W).drew).mono ?_; rintro e w3 ⟨rfl, rfl⟩))
          go_wp2_with fail
          refine (HM.out _ (Fr.refl no W).drew).mono ?_
          rintro e w4 ⟨rfl, f4⟩
          go_wp2_with fail
          go_ret
          exact ⟨rfl, HG.out.1.drew.new f4 (fun _ _ f => f)⟩
end Go.Proofs.YtpfkigoffllieaaGreatDoor
