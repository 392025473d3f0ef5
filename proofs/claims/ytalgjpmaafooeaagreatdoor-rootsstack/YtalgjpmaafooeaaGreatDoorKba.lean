/- tell: what is a reference at each instruction of main. -/
import Derived.Test.YtalgjpmaafooeaaGreatDoorKaz
import Derived.Test.YtalgjpmaafooeaaGreatDoorKay
namespace Go.Proofs.YtalgjpmaafooeaaGreatDoor
open Go.ChangeShapes Go.WideShapes Go.ChangeAt Go.RowKit
open H (ix NewV)
def RS (w : World) (m k : Nat) (xs : List Stt) : Prop := ∃ f : Nat → Option Rf, RM w m k f ∧
 (∀ j x, j < k → xs[j]? = some x → ∃ q, f j = some q ∧ H.OwnG elB w (.slice q.1.a q.1.n q.1.c) (x.lo.map isR) ∧ H.OwnG elB w (.slice q.2.a q.2.n q.2.c) (x.st.map isR)) ∧ ∀ j, k ≤ j → f j = none
theorem ne_map {w : World} {k m : Nat} {cur : Array Value} {t : TypeId} {fz : Nat × Nat} {es : Array MapEntry} {c : Nat} (h : w.heap[k]? = some (.cells cur t fz)) (h2 : w.heap[m]? = some (.map es c)) : k ≠ m := fun e => by
 rw [e, h2] at h
 simp at h
theorem RS.kept {S : Nat → Prop} {w w' : World} {m k : Nat} {xs : List Stt} (h : RS w m k xs) (hf : Fr S w w') (hS : ¬ S m) (hB : ∀ (v : Value) (l : List Bool) g, H.OwnG elB w v l → v.ownBlock = some g → ¬ S g) : RS w' m k xs := by
 obtain ⟨f, h1, h2, h3⟩ := h
 refine ⟨f, h1.kept hf hS, fun j x hj hx => ?_, h3⟩
 obtain ⟨q, q1, q2, q3⟩ := h2 j x hj hx
 exact ⟨q, q1, q2.kept hf (fun g hg => hB _ _ g q2 hg), q3.kept hf (fun g hg => hB _ _ g q3 hg)⟩
theorem RS.keep {w w' : World} {m k : Nat} {xs : List Stt} (h : RS w m k xs) (hf : Fr no w w') : RS w' m k xs := h.kept hf (fun f => f) (fun _ _ _ _ _ f => f)
theorem RS.isMap {w : World} {m k : Nat} {xs : List Stt} (h : RS w m k xs) : ∃ es c, w.heap[m]? = some (.map es c) := by
 obtain ⟨f, h1, -⟩ := h
 exact h1.isMap
theorem spot_ok {w : World} {v : Value} {a : Option Addr} {n c : Nat} {l : List Bool} (h : H.OwnG elB w v l) (hv : v = .slice a n c) : okS ⟨a, n, c⟩ := fun ad e => by
 simp only at e
 subst e hv
 rcases h.2 with ⟨e, _⟩ | ⟨g, cap, cur, e, _⟩
 · simp at e
 · simp only [Value.slice.injEq, Option.some.injEq] at e
   rw [e.1]
theorem RS.put {w : World} {m k : Nat} {xs : List Stt} (h : RS w m k xs) (hk : k < 16) {x : Stt} (hx : xs[k]? = some x) (q : Rf) (h1 : H.OwnG elB w (.slice q.1.a q.1.n q.1.c) (x.lo.map isR)) (h2 : H.OwnG elB w (.slice q.2.a q.2.n q.2.c) (x.st.map isR)) :
 ∃ w', (Instr.mapUpdate 80 (.map (some m)) (pk k) (rfV q)).run Tryz.prog w = .ok () w' ∧ RS w' m (k + 1) xs ∧ Fr (fun i => i = m) w w' := by
 obtain ⟨es, c, hM⟩ := h.isMap
 obtain ⟨f, f1, f2, f3⟩ := h
 obtain ⟨w', r1, r2, r3⟩ := f1.store (by omega) hk q (spot_ok h1 rfl) (spot_ok h2 rfl)
 have kp : ∀ {v : Value} {l : List Bool}, H.OwnG elB w v l → H.OwnG elB w' v l := fun {v l} o => o.kept r3 (fun g hg e => by
  obtain ⟨cur, hc⟩ := o.tag hg
  exact ne_map hc hM e)
 refine ⟨w', r1, ⟨_, r2, fun j y hj hy => ?_, fun j hj => ?_⟩, r3⟩
 · by_cases e : j = k
   · subst e
     rw [hx] at hy
     obtain rfl := Option.some.inj hy
     exact ⟨q, if_pos rfl, kp h1, kp h2⟩
   · obtain ⟨p, p1, p2, p3⟩ := f2 j y (by omega) hy
     exact ⟨p, (if_neg e).trans p1, kp p2, kp p3⟩
 · exact (if_neg (by omega)).trans (f3 j (by omega))
theorem ev_mapU {o : Oper} {a : Act} {w : World} (t : TypeId) (x y z : Nat) (m k v : Value) (w' : World) (ho : o.op = .mapUpdate t (.tmp x) (.tmp y) (.tmp z)) (hx : a.eval (.tmp x) = m) (hy : a.eval (.tmp y) = k) (hz : a.eval (.tmp z) = v) (hr : (Instr.mapUpdate t m k v).run Tryz.prog w = .ok () w') : (execOp a.eval o).run Tryz.prog w = .ok .skip w' := by
 unfold execOp; simp [ho, hx, hy, hz, hr, Result.andThen]
theorem Fl.state {w : World} {S C c n : Nat} {xs : List Stt} {ch : List Bool} (h : Fl w S C c n xs ch) {i : Nat} {x : Stt} (hx : xs[i]? = some x) (hr : x.r = true) :
 ∃ (lo st lk : Sv), w.cell? ⟨S, i * 4, none⟩ = some (.bool true) ∧ w.cell? ⟨S, i * 4 + 1, none⟩ = some (.slice lo.a lo.n lo.c) ∧ w.cell? ⟨S, i * 4 + 2, none⟩ = some (.slice st.a st.n st.c) ∧ w.cell? ⟨S, i * 4 + 3, none⟩ = some (.slice lk.a lk.n lk.c) ∧
  OwnG elTy w (.slice lo.a lo.n lo.c) x.lo ∧ OwnG elTy w (.slice st.a st.n st.c) x.st ∧ x.lo.length ≤ 1000 ∧ x.st.length ≤ 1000 := by
 obtain ⟨ss, s1, s2, s3, -⟩ := h.ex
 have hi : i < ss.length := by
  have := (List.getElem?_eq_some_iff.1 hx).1
  rw [h.lx] at this
  omega
 obtain ⟨sx, hsx⟩ : ∃ sx, ss[i]? = some sx := ⟨_, List.getElem?_eq_getElem hi⟩
 have SA := s3 i sx x hsx hx
 obtain ⟨ad, cap, e, -, -, hit⟩ := s1.sl okSa
 simp only [Value.slice.injEq] at e
 obtain ⟨rfl, -, -⟩ := e
 obtain ⟨b', off', e, hcs⟩ := hit i sx hsx
 simp only [Option.some.injEq, Addr.mk.injEq, and_true] at e
 obtain ⟨rfl, rfl⟩ := e
 have d0 := hcs 0 _ rfl
 have d1 := hcs 1 _ rfl
 have d2 := hcs 2 _ rfl
 have d3 := hcs 3 _ rfl
 simp only [elSa, Nat.zero_add, Nat.add_zero] at d0 d1 d2 d3
 rw [SA.r, hr] at d0
 exact ⟨sx.lo, sx.st, sx.lk, d0, d1, d2, d3, (SA.lo hr).1, (SA.st hr).1, SA.few⟩
end Go.Proofs.YtalgjpmaafooeaaGreatDoor
/- tell, walked. -/
namespace Go.Proofs.YtalgjpmaafooeaaGreatDoor
open Go.ChangeShapes Go.WideShapes Go.ChangeAt Go.RowKit
open H (ix NewV)
set_option maxRecDepth 100000 in
set_option maxHeartbeats 4000000 in
theorem tell_any (w : World) (mb m p : Nat) (hmb : w.cell? ⟨mb, 0, none⟩ = some (.map (some m))) (hne : mb ≠ m) (xs : List Stt) (ch : List Bool) (h0 : RS w m 0 xs) (n : Nat) (hn : n ≤ 15) (hr : ∀ x ∈ xs, x.r = true)
 (LM : Calls Tryz.prog 15 #[.pointer (some ⟨p, 0, none⟩), .string sMain, .string smain] w fun e w' => ∃ S C c, e = .returned (.tuple #[.slice (some ⟨S, 0, none⟩) n n, .int .i64 0]) ∧ Fl w' S C c n xs ch ∧ Fr no w w') :
 Calls Tryz.prog 27 #[.pointer (some ⟨mb, 0, none⟩), .pointer (some ⟨p, 0, none⟩), .string sMain, .string smain] w fun e w' => e = .returned (.tuple #[]) ∧ RS w' m n xs ∧ Fr (fun i => i = m) w w' := by
 have HR : Hid (∀ x ∈ xs, x.r = true) := hr
 have HM0 : Hid (w.cell? ⟨mb, 0, none⟩ = some (.map (some m)) ∧ RS w m 0 xs) := ⟨hmb, h0⟩
 have HPK : Hid (∀ k : Nat, pk k = .agg #[.string sMain, .string smain, .int .i64 (k : Int)]) := fun _ => rfl
 clear hr hmb h0
 generalize hsM : sMain = sM at *
 generalize hsm : smain = sm at *
 go_enter Tryz.func27, Tryz.ntmps27
 go_wp2_with fail
 refine LM.mono ?_
 rintro _ w1 ⟨S, C, c, rfl, FL, f1⟩
 have HFL : Hid (Fl w1 S C c n xs ch) := FL
 have HF1 : Hid (Fr no w w1) := f1
 have HRS1 : Hid (RS w1 m 0 xs) := HM0.out.2.keep f1
 have HSm : Hid (∀ g cur t fz, w1.heap[g]? = some (.cells cur t fz) → g ≠ m) := fun g cur t fz hg => by
  obtain ⟨es, cc, hM⟩ := HRS1.out.isMap
  exact ne_map hg hM
 clear LM FL f1
 go_wp2_with fail
 go_loopw [21] (fun iv wr => ∃ k : Nat, iv = .int .i64 (k : Int) ∧ k ≤ n ∧ RS wr m k xs ∧ Fr (fun i => i = m) w1 wr) (fun iv _ => n - (intOf iv).toNat)
 case atStart => exact ⟨0, rfl, Nat.zero_le _, HRS1.out, Fr.refl _ _⟩
 case round =>
  obtain ⟨k, rfl, hk, hrs, hfr⟩ := hrel
  have HZ : Hid (RS wr m k xs ∧ Fr (fun i => i = m) w1 wr) := ⟨hrs, hfr⟩
  by_cases hkn : k < n
  · have hkn' : (k : Int) < (n : Int) := by omega
    obtain ⟨x, hx⟩ : ∃ x, xs[k]? = some x := ⟨_, List.getElem?_eq_getElem (by rw [HFL.out.lx]; exact hkn)⟩
    have hxr := HR.out x (List.mem_of_getElem? hx)
    obtain ⟨⟨loa, lon, loc⟩, ⟨sta, stn, stc⟩, ⟨lka, lkn, lkc⟩, d0, d1, d2, d3, o1, o2, l1, l2⟩ := HFL.out.state hx hxr
    simp only at d1 d2 d3 o1 o2
    have hS : S ≠ m := by
     obtain ⟨-, -, cur, hc, -⟩ := HFL.out.cellS (i := k) hkn
     exact HSm.out S cur _ _ hc
    have c0 := hfr.cell d0 hS
    have c1 := hfr.cell d1 hS
    have c2 := hfr.cell d2 hS
    have c3 := hfr.cell d3 hS
    have q1 : OwnG elTy wr (.slice loa lon loc) x.lo := o1.kept hfr (fun g hg e => by
     obtain ⟨cur, hc⟩ := o1.tag hg
     exact HSm.out g _ _ _ hc e)
    have q2 : OwnG elTy wr (.slice sta stn stc) x.st := o2.kept hfr (fun g hg e => by
     obtain ⟨cur, hc⟩ := o2.tag hg
     exact HSm.out g _ _ _ hc e)
    have cm : wr.cell? ⟨mb, 0, none⟩ = some (.map (some m)) := hfr.cell (HF1.out.cell HM0.out.1 (fun f => f)) hne
    generalize hW2 : wr.alloc (.cells #[.bool true, .slice loa lon loc, .slice sta stn stc, .slice lka lkn lkc] 67) = W2
    have G2 : Fr no wr W2 := by rw [← hW2]; exact (Fr.refl no wr).alloc _ _
    have E2 : W2.heap[wr.heap.size]? = some (.cells #[.bool true, .slice loa lon loc, .slice sta stn stc, .slice lka lkn lkc] 67 (0, 0)) := by rw [← hW2]; exact heap_alloc_new wr _
    have b0 := cell_at (o := 0) E2
    simp at b0
    have HL : Hid (∀ w', Fr no W2 w' → w'.heap[wr.heap.size]? = some (.cells #[.bool true, .slice loa lon loc, .slice sta stn stc, .slice lka lkn lkc] 67 (0, 0)) ∧ w'.cell? ⟨mb, 0, none⟩ = some (.map (some m)) ∧ SlG elTy w' (.slice loa lon loc) x.lo ∧ SlG elTy w' (.slice sta stn stc) x.st) := fun w' hf =>
     ⟨hf.heap E2 (fun f => f), hf.cell (G2.cell cm (fun f => f)) (fun f => f), ((q1.keep G2).keep hf).sl okTy, ((q2.keep G2).keep hf).sl okTy⟩
    have HX : Hid (xs[k]? = some x ∧ x.lo.length ≤ 1000 ∧ x.st.length ≤ 1000 ∧ RS W2 m k xs ∧ Fr no wr W2) := ⟨hx, l1, l2, hrs.keep G2, G2⟩
    have HS0 : Hid (Fr no W2 W2.drew) := (Fr.refl no W2).drew
    clear hx hxr d0 d1 d2 d3 o1 o2 l1 l2 q1 q2 cm G2 E2 hrs hfr
    go_wp2_with fail
    refine late_begin (S := fun w' => Fr no W2 w') (g := 15) (by kernel_rfl) ?_
    refine lateP 0 (.pointer (some ⟨mb, 0, none⟩)) rfl (fun _ => ev_move 0 _ rfl (by kernel_rfl)) (fun _ => HS0.out) ?_
    refine lateP 1 (.pointer (some ⟨mb, 0, none⟩)) rfl (fun _ => ev_nil 28 ⟨mb, 0, none⟩ rfl (by kernel_rfl)) (fun _ => HS0.out) ?_
    refine lateN (true :: true :: false :: false :: false :: false :: false :: false :: false :: false :: false :: false :: false :: false :: false :: false :: []).toArray ⟨(.pointer (some ⟨mb, 0, none⟩) :: .pointer (some ⟨p, 0, none⟩) :: .string sM :: .string sm :: undef :: undef :: undef :: undef :: .slice (some ⟨S, 0, none⟩) n n :: .int .i64 0 :: .int .i64 (k : Int) :: .pointer (some ⟨wr.heap.size, 0, none⟩) :: .tuple #[.slice (some ⟨S, 0, none⟩) n n, .int .i64 0] :: .pointer (some ⟨p, 0, none⟩) :: .string sM :: .string sm :: .tuple #[.slice (some ⟨S, 0, none⟩) n n, .int .i64 0] :: .slice (some ⟨S, 0, none⟩) n n :: .int .i64 0 :: .slice (some ⟨S, 0, none⟩) n n :: .int .i64 (n : Int) :: .int .i64 (k : Int) :: .bool true :: .int .i64 (k : Int) :: .pointer (some ⟨S, k * 4, none⟩) :: .agg #[.bool true, .slice loa lon loc, .slice sta stn stc, .slice lka lkn lkc] :: .pointer (some ⟨wr.heap.size, 0, none⟩) :: .bool true :: .pointer (some ⟨mb, 0, none⟩) :: .pointer (some ⟨mb, 0, none⟩) :: u30 :: u31 :: u32 :: u33 :: u34 :: u35 :: u36 :: u37 :: u38 :: u39 :: u40 :: u41 :: u42 :: u43 :: []).toArray, []⟩ ?_
    refine lateP 2 (.pointer (some ⟨mb, 0, none⟩)) rfl (fun _ => ev_field 82 29 0 (.pointer (some ⟨mb, 0, none⟩)) _ rfl (by kernel_rfl) (by kernel_rfl)) (fun _ => HS0.out) ?_
    refine lateN (true :: true :: true :: false :: false :: false :: false :: false :: false :: false :: false :: false :: false :: false :: false :: false :: []).toArray ⟨(.pointer (some ⟨mb, 0, none⟩) :: .pointer (some ⟨p, 0, none⟩) :: .string sM :: .string sm :: undef :: undef :: undef :: undef :: .slice (some ⟨S, 0, none⟩) n n :: .int .i64 0 :: .int .i64 (k : Int) :: .pointer (some ⟨wr.heap.size, 0, none⟩) :: .tuple #[.slice (some ⟨S, 0, none⟩) n n, .int .i64 0] :: .pointer (some ⟨p, 0, none⟩) :: .string sM :: .string sm :: .tuple #[.slice (some ⟨S, 0, none⟩) n n, .int .i64 0] :: .slice (some ⟨S, 0, none⟩) n n :: .int .i64 0 :: .slice (some ⟨S, 0, none⟩) n n :: .int .i64 (n : Int) :: .int .i64 (k : Int) :: .bool true :: .int .i64 (k : Int) :: .pointer (some ⟨S, k * 4, none⟩) :: .agg #[.bool true, .slice loa lon loc, .slice sta stn stc, .slice lka lkn lkc] :: .pointer (some ⟨wr.heap.size, 0, none⟩) :: .bool true :: .pointer (some ⟨mb, 0, none⟩) :: .pointer (some ⟨mb, 0, none⟩) :: .pointer (some ⟨mb, 0, none⟩) :: u31 :: u32 :: u33 :: u34 :: u35 :: u36 :: u37 :: u38 :: u39 :: u40 :: u41 :: u42 :: u43 :: []).toArray, []⟩ ?_
    refine lateT 3 (.map (some m)) rfl (fun wz hz => ev_load 80 30 (.pointer (some ⟨mb, 0, none⟩)) _ rfl (by kernel_rfl) (by simp [go_sem, (HL.out wz hz).2.1])) HS0.out ?_
    refine lateN (true :: true :: true :: true :: false :: false :: false :: false :: false :: false :: false :: false :: false :: false :: false :: false :: []).toArray ⟨(.pointer (some ⟨mb, 0, none⟩) :: .pointer (some ⟨p, 0, none⟩) :: .string sM :: .string sm :: undef :: undef :: undef :: undef :: .slice (some ⟨S, 0, none⟩) n n :: .int .i64 0 :: .int .i64 (k : Int) :: .pointer (some ⟨wr.heap.size, 0, none⟩) :: .tuple #[.slice (some ⟨S, 0, none⟩) n n, .int .i64 0] :: .pointer (some ⟨p, 0, none⟩) :: .string sM :: .string sm :: .tuple #[.slice (some ⟨S, 0, none⟩) n n, .int .i64 0] :: .slice (some ⟨S, 0, none⟩) n n :: .int .i64 0 :: .slice (some ⟨S, 0, none⟩) n n :: .int .i64 (n : Int) :: .int .i64 (k : Int) :: .bool true :: .int .i64 (k : Int) :: .pointer (some ⟨S, k * 4, none⟩) :: .agg #[.bool true, .slice loa lon loc, .slice sta stn stc, .slice lka lkn lkc] :: .pointer (some ⟨wr.heap.size, 0, none⟩) :: .bool true :: .pointer (some ⟨mb, 0, none⟩) :: .pointer (some ⟨mb, 0, none⟩) :: .pointer (some ⟨mb, 0, none⟩) :: .map (some m) :: u32 :: u33 :: u34 :: u35 :: u36 :: u37 :: u38 :: u39 :: u40 :: u41 :: u42 :: u43 :: []).toArray, []⟩ ?_
    refine lateP 4 (.string sM) rfl (fun _ => ev_move 2 _ rfl (by kernel_rfl)) (fun _ => HS0.out) ?_
    refine lateP 5 (.string sm) rfl (fun _ => ev_move 3 _ rfl (by kernel_rfl)) (fun _ => HS0.out) ?_
    refine lateN (true :: true :: true :: true :: true :: true :: false :: false :: false :: false :: false :: false :: false :: false :: false :: false :: []).toArray ⟨(.pointer (some ⟨mb, 0, none⟩) :: .pointer (some ⟨p, 0, none⟩) :: .string sM :: .string sm :: undef :: undef :: undef :: undef :: .slice (some ⟨S, 0, none⟩) n n :: .int .i64 0 :: .int .i64 (k : Int) :: .pointer (some ⟨wr.heap.size, 0, none⟩) :: .tuple #[.slice (some ⟨S, 0, none⟩) n n, .int .i64 0] :: .pointer (some ⟨p, 0, none⟩) :: .string sM :: .string sm :: .tuple #[.slice (some ⟨S, 0, none⟩) n n, .int .i64 0] :: .slice (some ⟨S, 0, none⟩) n n :: .int .i64 0 :: .slice (some ⟨S, 0, none⟩) n n :: .int .i64 (n : Int) :: .int .i64 (k : Int) :: .bool true :: .int .i64 (k : Int) :: .pointer (some ⟨S, k * 4, none⟩) :: .agg #[.bool true, .slice loa lon loc, .slice sta stn stc, .slice lka lkn lkc] :: .pointer (some ⟨wr.heap.size, 0, none⟩) :: .bool true :: .pointer (some ⟨mb, 0, none⟩) :: .pointer (some ⟨mb, 0, none⟩) :: .pointer (some ⟨mb, 0, none⟩) :: .map (some m) :: .string sM :: .string sm :: u34 :: u35 :: u36 :: u37 :: u38 :: u39 :: u40 :: u41 :: u42 :: u43 :: []).toArray, []⟩ ?_
    refine lateP 6 (.int .i64 (k : Int)) rfl (fun _ => ev_move 10 _ rfl (by kernel_rfl)) (fun _ => HS0.out) ?_
    refine lateN (true :: true :: true :: true :: true :: true :: true :: false :: false :: false :: false :: false :: false :: false :: false :: false :: []).toArray ⟨(.pointer (some ⟨mb, 0, none⟩) :: .pointer (some ⟨p, 0, none⟩) :: .string sM :: .string sm :: undef :: undef :: undef :: undef :: .slice (some ⟨S, 0, none⟩) n n :: .int .i64 0 :: .int .i64 (k : Int) :: .pointer (some ⟨wr.heap.size, 0, none⟩) :: .tuple #[.slice (some ⟨S, 0, none⟩) n n, .int .i64 0] :: .pointer (some ⟨p, 0, none⟩) :: .string sM :: .string sm :: .tuple #[.slice (some ⟨S, 0, none⟩) n n, .int .i64 0] :: .slice (some ⟨S, 0, none⟩) n n :: .int .i64 0 :: .slice (some ⟨S, 0, none⟩) n n :: .int .i64 (n : Int) :: .int .i64 (k : Int) :: .bool true :: .int .i64 (k : Int) :: .pointer (some ⟨S, k * 4, none⟩) :: .agg #[.bool true, .slice loa lon loc, .slice sta stn stc, .slice lka lkn lkc] :: .pointer (some ⟨wr.heap.size, 0, none⟩) :: .bool true :: .pointer (some ⟨mb, 0, none⟩) :: .pointer (some ⟨mb, 0, none⟩) :: .pointer (some ⟨mb, 0, none⟩) :: .map (some m) :: .string sM :: .string sm :: .int .i64 (k : Int) :: u35 :: u36 :: u37 :: u38 :: u39 :: u40 :: u41 :: u42 :: u43 :: []).toArray, []⟩ ?_
    refine lateP 7 (.agg #[.string sM, .string sm, .int .i64 (k : Int)]) rfl (fun _ => by kernel_rfl) (fun _ => HS0.out) ?_
    refine lateN (true :: true :: true :: true :: true :: true :: true :: true :: false :: false :: false :: false :: false :: false :: false :: false :: []).toArray ⟨(.pointer (some ⟨mb, 0, none⟩) :: .pointer (some ⟨p, 0, none⟩) :: .string sM :: .string sm :: undef :: undef :: undef :: undef :: .slice (some ⟨S, 0, none⟩) n n :: .int .i64 0 :: .int .i64 (k : Int) :: .pointer (some ⟨wr.heap.size, 0, none⟩) :: .tuple #[.slice (some ⟨S, 0, none⟩) n n, .int .i64 0] :: .pointer (some ⟨p, 0, none⟩) :: .string sM :: .string sm :: .tuple #[.slice (some ⟨S, 0, none⟩) n n, .int .i64 0] :: .slice (some ⟨S, 0, none⟩) n n :: .int .i64 0 :: .slice (some ⟨S, 0, none⟩) n n :: .int .i64 (n : Int) :: .int .i64 (k : Int) :: .bool true :: .int .i64 (k : Int) :: .pointer (some ⟨S, k * 4, none⟩) :: .agg #[.bool true, .slice loa lon loc, .slice sta stn stc, .slice lka lkn lkc] :: .pointer (some ⟨wr.heap.size, 0, none⟩) :: .bool true :: .pointer (some ⟨mb, 0, none⟩) :: .pointer (some ⟨mb, 0, none⟩) :: .pointer (some ⟨mb, 0, none⟩) :: .map (some m) :: .string sM :: .string sm :: .int .i64 (k : Int) :: .agg #[.string sM, .string sm, .int .i64 (k : Int)] :: u36 :: u37 :: u38 :: u39 :: u40 :: u41 :: u42 :: u43 :: []).toArray, []⟩ ?_
    refine lateP 8 (.pointer (some ⟨wr.heap.size, 1, none⟩)) rfl (fun _ => ev_field 67 11 1 (.pointer (some ⟨wr.heap.size, 0, none⟩)) _ rfl (by kernel_rfl) (by kernel_rfl)) (fun _ => HS0.out) ?_
    refine lateN (true :: true :: true :: true :: true :: true :: true :: true :: true :: false :: false :: false :: false :: false :: false :: false :: []).toArray ⟨(.pointer (some ⟨mb, 0, none⟩) :: .pointer (some ⟨p, 0, none⟩) :: .string sM :: .string sm :: undef :: undef :: undef :: undef :: .slice (some ⟨S, 0, none⟩) n n :: .int .i64 0 :: .int .i64 (k : Int) :: .pointer (some ⟨wr.heap.size, 0, none⟩) :: .tuple #[.slice (some ⟨S, 0, none⟩) n n, .int .i64 0] :: .pointer (some ⟨p, 0, none⟩) :: .string sM :: .string sm :: .tuple #[.slice (some ⟨S, 0, none⟩) n n, .int .i64 0] :: .slice (some ⟨S, 0, none⟩) n n :: .int .i64 0 :: .slice (some ⟨S, 0, none⟩) n n :: .int .i64 (n : Int) :: .int .i64 (k : Int) :: .bool true :: .int .i64 (k : Int) :: .pointer (some ⟨S, k * 4, none⟩) :: .agg #[.bool true, .slice loa lon loc, .slice sta stn stc, .slice lka lkn lkc] :: .pointer (some ⟨wr.heap.size, 0, none⟩) :: .bool true :: .pointer (some ⟨mb, 0, none⟩) :: .pointer (some ⟨mb, 0, none⟩) :: .pointer (some ⟨mb, 0, none⟩) :: .map (some m) :: .string sM :: .string sm :: .int .i64 (k : Int) :: .agg #[.string sM, .string sm, .int .i64 (k : Int)] :: .pointer (some ⟨wr.heap.size, 1, none⟩) :: u37 :: u38 :: u39 :: u40 :: u41 :: u42 :: u43 :: []).toArray, []⟩ ?_
    refine lateT 9 (.slice loa lon loc) rfl (fun wz hz => ev_load 42 36 (.pointer (some ⟨wr.heap.size, 1, none⟩)) _ rfl (by kernel_rfl) (by simp [go_sem, cell_at (o := 1) (HL.out wz hz).1])) HS0.out ?_
    refine lateN (true :: true :: true :: true :: true :: true :: true :: true :: true :: true :: false :: false :: false :: false :: false :: false :: []).toArray ⟨(.pointer (some ⟨mb, 0, none⟩) :: .pointer (some ⟨p, 0, none⟩) :: .string sM :: .string sm :: undef :: undef :: undef :: undef :: .slice (some ⟨S, 0, none⟩) n n :: .int .i64 0 :: .int .i64 (k : Int) :: .pointer (some ⟨wr.heap.size, 0, none⟩) :: .tuple #[.slice (some ⟨S, 0, none⟩) n n, .int .i64 0] :: .pointer (some ⟨p, 0, none⟩) :: .string sM :: .string sm :: .tuple #[.slice (some ⟨S, 0, none⟩) n n, .int .i64 0] :: .slice (some ⟨S, 0, none⟩) n n :: .int .i64 0 :: .slice (some ⟨S, 0, none⟩) n n :: .int .i64 (n : Int) :: .int .i64 (k : Int) :: .bool true :: .int .i64 (k : Int) :: .pointer (some ⟨S, k * 4, none⟩) :: .agg #[.bool true, .slice loa lon loc, .slice sta stn stc, .slice lka lkn lkc] :: .pointer (some ⟨wr.heap.size, 0, none⟩) :: .bool true :: .pointer (some ⟨mb, 0, none⟩) :: .pointer (some ⟨mb, 0, none⟩) :: .pointer (some ⟨mb, 0, none⟩) :: .map (some m) :: .string sM :: .string sm :: .int .i64 (k : Int) :: .agg #[.string sM, .string sm, .int .i64 (k : Int)] :: .pointer (some ⟨wr.heap.size, 1, none⟩) :: .slice loa lon loc :: u38 :: u39 :: u40 :: u41 :: u42 :: u43 :: []).toArray, []⟩ ?_
    refine lateP 11 (.pointer (some ⟨wr.heap.size, 2, none⟩)) rfl (fun _ => ev_field 67 11 2 (.pointer (some ⟨wr.heap.size, 0, none⟩)) _ rfl (by kernel_rfl) (by kernel_rfl)) (fun _ => HS0.out) ?_
    refine lateN (true :: true :: true :: true :: true :: true :: true :: true :: true :: true :: false :: true :: false :: false :: false :: false :: []).toArray ⟨(.pointer (some ⟨mb, 0, none⟩) :: .pointer (some ⟨p, 0, none⟩) :: .string sM :: .string sm :: undef :: undef :: undef :: undef :: .slice (some ⟨S, 0, none⟩) n n :: .int .i64 0 :: .int .i64 (k : Int) :: .pointer (some ⟨wr.heap.size, 0, none⟩) :: .tuple #[.slice (some ⟨S, 0, none⟩) n n, .int .i64 0] :: .pointer (some ⟨p, 0, none⟩) :: .string sM :: .string sm :: .tuple #[.slice (some ⟨S, 0, none⟩) n n, .int .i64 0] :: .slice (some ⟨S, 0, none⟩) n n :: .int .i64 0 :: .slice (some ⟨S, 0, none⟩) n n :: .int .i64 (n : Int) :: .int .i64 (k : Int) :: .bool true :: .int .i64 (k : Int) :: .pointer (some ⟨S, k * 4, none⟩) :: .agg #[.bool true, .slice loa lon loc, .slice sta stn stc, .slice lka lkn lkc] :: .pointer (some ⟨wr.heap.size, 0, none⟩) :: .bool true :: .pointer (some ⟨mb, 0, none⟩) :: .pointer (some ⟨mb, 0, none⟩) :: .pointer (some ⟨mb, 0, none⟩) :: .map (some m) :: .string sM :: .string sm :: .int .i64 (k : Int) :: .agg #[.string sM, .string sm, .int .i64 (k : Int)] :: .pointer (some ⟨wr.heap.size, 1, none⟩) :: .slice loa lon loc :: u38 :: .pointer (some ⟨wr.heap.size, 2, none⟩) :: u40 :: u41 :: u42 :: u43 :: []).toArray, []⟩ ?_
    refine lateT 12 (.slice sta stn stc) rfl (fun wz hz => ev_load 42 39 (.pointer (some ⟨wr.heap.size, 2, none⟩)) _ rfl (by kernel_rfl) (by simp [go_sem, cell_at (o := 2) (HL.out wz hz).1])) HS0.out ?_
    refine lateN (true :: true :: true :: true :: true :: true :: true :: true :: true :: true :: false :: true :: true :: false :: false :: false :: []).toArray ⟨(.pointer (some ⟨mb, 0, none⟩) :: .pointer (some ⟨p, 0, none⟩) :: .string sM :: .string sm :: undef :: undef :: undef :: undef :: .slice (some ⟨S, 0, none⟩) n n :: .int .i64 0 :: .int .i64 (k : Int) :: .pointer (some ⟨wr.heap.size, 0, none⟩) :: .tuple #[.slice (some ⟨S, 0, none⟩) n n, .int .i64 0] :: .pointer (some ⟨p, 0, none⟩) :: .string sM :: .string sm :: .tuple #[.slice (some ⟨S, 0, none⟩) n n, .int .i64 0] :: .slice (some ⟨S, 0, none⟩) n n :: .int .i64 0 :: .slice (some ⟨S, 0, none⟩) n n :: .int .i64 (n : Int) :: .int .i64 (k : Int) :: .bool true :: .int .i64 (k : Int) :: .pointer (some ⟨S, k * 4, none⟩) :: .agg #[.bool true, .slice loa lon loc, .slice sta stn stc, .slice lka lkn lkc] :: .pointer (some ⟨wr.heap.size, 0, none⟩) :: .bool true :: .pointer (some ⟨mb, 0, none⟩) :: .pointer (some ⟨mb, 0, none⟩) :: .pointer (some ⟨mb, 0, none⟩) :: .map (some m) :: .string sM :: .string sm :: .int .i64 (k : Int) :: .agg #[.string sM, .string sm, .int .i64 (k : Int)] :: .pointer (some ⟨wr.heap.size, 1, none⟩) :: .slice loa lon loc :: u38 :: .pointer (some ⟨wr.heap.size, 2, none⟩) :: .slice sta stn stc :: u41 :: u42 :: u43 :: []).toArray, []⟩ ?_
    refine late_all [10] (by kernel_rfl) (by simp) (fun jj hjj => ?_)
    simp only [List.mem_singleton] at hjj
    subst hjj
    refine late_call (f := 53) rfl rfl (vals := #[.slice loa lon loc]) (by kernel_rfl) (R := fun v w' => ∃ o n c, v = .slice o n c ∧ H.OwnG elB w' (.slice o n c) (x.lo.map isR) ∧ NewV W2.drew (.slice o n c) ∧ Fr no W2.drew w') ((areRefs_any W2.drew _ _ (HL.out _ HS0.out).2.2.1 HX.out.2.1).mono (fun e w' ⟨o, n, c, h1, h2⟩ => ⟨_, h1, o, n, c, rfl, h2⟩)) (fun v w4 hv => ?_)
    obtain ⟨oa, na, ca, rfl, ha, -, f4⟩ := hv
    have g4 : Fr no W2 w4 := HS0.out.new f4 (fun _ _ f => f)
    refine ⟨fun _ => g4, ?_⟩
    refine lateN (true :: true :: true :: true :: true :: true :: true :: true :: true :: true :: true :: true :: true :: false :: false :: false :: []).toArray ⟨(.pointer (some ⟨mb, 0, none⟩) :: .pointer (some ⟨p, 0, none⟩) :: .string sM :: .string sm :: undef :: undef :: undef :: undef :: .slice (some ⟨S, 0, none⟩) n n :: .int .i64 0 :: .int .i64 (k : Int) :: .pointer (some ⟨wr.heap.size, 0, none⟩) :: .tuple #[.slice (some ⟨S, 0, none⟩) n n, .int .i64 0] :: .pointer (some ⟨p, 0, none⟩) :: .string sM :: .string sm :: .tuple #[.slice (some ⟨S, 0, none⟩) n n, .int .i64 0] :: .slice (some ⟨S, 0, none⟩) n n :: .int .i64 0 :: .slice (some ⟨S, 0, none⟩) n n :: .int .i64 (n : Int) :: .int .i64 (k : Int) :: .bool true :: .int .i64 (k : Int) :: .pointer (some ⟨S, k * 4, none⟩) :: .agg #[.bool true, .slice loa lon loc, .slice sta stn stc, .slice lka lkn lkc] :: .pointer (some ⟨wr.heap.size, 0, none⟩) :: .bool true :: .pointer (some ⟨mb, 0, none⟩) :: .pointer (some ⟨mb, 0, none⟩) :: .pointer (some ⟨mb, 0, none⟩) :: .map (some m) :: .string sM :: .string sm :: .int .i64 (k : Int) :: .agg #[.string sM, .string sm, .int .i64 (k : Int)] :: .pointer (some ⟨wr.heap.size, 1, none⟩) :: .slice loa lon loc :: .slice oa na ca :: .pointer (some ⟨wr.heap.size, 2, none⟩) :: .slice sta stn stc :: u41 :: u42 :: u43 :: []).toArray, []⟩ ?_
    refine late_all [13] (by kernel_rfl) (by simp) (fun jj hjj => ?_)
    simp only [List.mem_singleton] at hjj
    subst hjj
    refine late_call (f := 53) rfl rfl (vals := #[.slice sta stn stc]) (by kernel_rfl) (R := fun v w' => ∃ o n c, v = .slice o n c ∧ H.OwnG elB w' (.slice o n c) (x.st.map isR) ∧ NewV w4 (.slice o n c) ∧ Fr no w4 w') ((areRefs_any w4 _ _ (HL.out _ g4).2.2.2 HX.out.2.2.1).mono (fun e w' ⟨o, n, c, h1, h2⟩ => ⟨_, h1, o, n, c, rfl, h2⟩)) (fun v w5 hv => ?_)
    obtain ⟨ob, nb, cb, rfl, hb, -, f5⟩ := hv
    have g5 : Fr no W2 w5 := g4.new f5 (fun _ _ f => f)
    refine ⟨fun _ => g5, ?_⟩
    refine lateN (true :: true :: true :: true :: true :: true :: true :: true :: true :: true :: true :: true :: true :: true :: false :: false :: []).toArray ⟨(.pointer (some ⟨mb, 0, none⟩) :: .pointer (some ⟨p, 0, none⟩) :: .string sM :: .string sm :: undef :: undef :: undef :: undef :: .slice (some ⟨S, 0, none⟩) n n :: .int .i64 0 :: .int .i64 (k : Int) :: .pointer (some ⟨wr.heap.size, 0, none⟩) :: .tuple #[.slice (some ⟨S, 0, none⟩) n n, .int .i64 0] :: .pointer (some ⟨p, 0, none⟩) :: .string sM :: .string sm :: .tuple #[.slice (some ⟨S, 0, none⟩) n n, .int .i64 0] :: .slice (some ⟨S, 0, none⟩) n n :: .int .i64 0 :: .slice (some ⟨S, 0, none⟩) n n :: .int .i64 (n : Int) :: .int .i64 (k : Int) :: .bool true :: .int .i64 (k : Int) :: .pointer (some ⟨S, k * 4, none⟩) :: .agg #[.bool true, .slice loa lon loc, .slice sta stn stc, .slice lka lkn lkc] :: .pointer (some ⟨wr.heap.size, 0, none⟩) :: .bool true :: .pointer (some ⟨mb, 0, none⟩) :: .pointer (some ⟨mb, 0, none⟩) :: .pointer (some ⟨mb, 0, none⟩) :: .map (some m) :: .string sM :: .string sm :: .int .i64 (k : Int) :: .agg #[.string sM, .string sm, .int .i64 (k : Int)] :: .pointer (some ⟨wr.heap.size, 1, none⟩) :: .slice loa lon loc :: .slice oa na ca :: .pointer (some ⟨wr.heap.size, 2, none⟩) :: .slice sta stn stc :: .slice ob nb cb :: u42 :: u43 :: []).toArray, []⟩ ?_
    refine lateP 14 (.agg #[.slice oa na ca, .slice ob nb cb]) rfl (fun _ => by kernel_rfl) (fun _ => g5) ?_
    refine lateN (true :: true :: true :: true :: true :: true :: true :: true :: true :: true :: true :: true :: true :: true :: true :: false :: []).toArray ⟨(.pointer (some ⟨mb, 0, none⟩) :: .pointer (some ⟨p, 0, none⟩) :: .string sM :: .string sm :: undef :: undef :: undef :: undef :: .slice (some ⟨S, 0, none⟩) n n :: .int .i64 0 :: .int .i64 (k : Int) :: .pointer (some ⟨wr.heap.size, 0, none⟩) :: .tuple #[.slice (some ⟨S, 0, none⟩) n n, .int .i64 0] :: .pointer (some ⟨p, 0, none⟩) :: .string sM :: .string sm :: .tuple #[.slice (some ⟨S, 0, none⟩) n n, .int .i64 0] :: .slice (some ⟨S, 0, none⟩) n n :: .int .i64 0 :: .slice (some ⟨S, 0, none⟩) n n :: .int .i64 (n : Int) :: .int .i64 (k : Int) :: .bool true :: .int .i64 (k : Int) :: .pointer (some ⟨S, k * 4, none⟩) :: .agg #[.bool true, .slice loa lon loc, .slice sta stn stc, .slice lka lkn lkc] :: .pointer (some ⟨wr.heap.size, 0, none⟩) :: .bool true :: .pointer (some ⟨mb, 0, none⟩) :: .pointer (some ⟨mb, 0, none⟩) :: .pointer (some ⟨mb, 0, none⟩) :: .map (some m) :: .string sM :: .string sm :: .int .i64 (k : Int) :: .agg #[.string sM, .string sm, .int .i64 (k : Int)] :: .pointer (some ⟨wr.heap.size, 1, none⟩) :: .slice loa lon loc :: .slice oa na ca :: .pointer (some ⟨wr.heap.size, 2, none⟩) :: .slice sta stn stc :: .slice ob nb cb :: .agg #[.slice oa na ca, .slice ob nb cb] :: u43 :: []).toArray, []⟩ ?_
    refine late_all [15] (by kernel_rfl) (by simp) (fun jj hjj => ?_)
    simp only [List.mem_singleton] at hjj
    subst hjj
    obtain ⟨w6, r6, h6, F6⟩ := (HX.out.2.2.2.1.keep g5).put (by omega) HX.out.1 (⟨oa, na, ca⟩, ⟨ob, nb, cb⟩) (ha.keep f5) hb
    rw [HPK.out k] at r6
    refine late_skip rfl rfl (ev_mapU 80 31 35 42 (.map (some m)) (.agg #[.string sM, .string sm, .int .i64 (k : Int)]) (.agg #[.slice oa na ca, .slice ob nb cb]) w6 rfl (by kernel_rfl) (by kernel_rfl) (by kernel_rfl) r6) ?_
    refine ⟨(fun h => by simp at h), ?_⟩
    refine lateN (true :: true :: true :: true :: true :: true :: true :: true :: true :: true :: true :: true :: true :: true :: true :: true :: []).toArray ⟨(.pointer (some ⟨mb, 0, none⟩) :: .pointer (some ⟨p, 0, none⟩) :: .string sM :: .string sm :: undef :: undef :: undef :: undef :: .slice (some ⟨S, 0, none⟩) n n :: .int .i64 0 :: .int .i64 (k : Int) :: .pointer (some ⟨wr.heap.size, 0, none⟩) :: .tuple #[.slice (some ⟨S, 0, none⟩) n n, .int .i64 0] :: .pointer (some ⟨p, 0, none⟩) :: .string sM :: .string sm :: .tuple #[.slice (some ⟨S, 0, none⟩) n n, .int .i64 0] :: .slice (some ⟨S, 0, none⟩) n n :: .int .i64 0 :: .slice (some ⟨S, 0, none⟩) n n :: .int .i64 (n : Int) :: .int .i64 (k : Int) :: .bool true :: .int .i64 (k : Int) :: .pointer (some ⟨S, k * 4, none⟩) :: .agg #[.bool true, .slice loa lon loc, .slice sta stn stc, .slice lka lkn lkc] :: .pointer (some ⟨wr.heap.size, 0, none⟩) :: .bool true :: .pointer (some ⟨mb, 0, none⟩) :: .pointer (some ⟨mb, 0, none⟩) :: .pointer (some ⟨mb, 0, none⟩) :: .map (some m) :: .string sM :: .string sm :: .int .i64 (k : Int) :: .agg #[.string sM, .string sm, .int .i64 (k : Int)] :: .pointer (some ⟨wr.heap.size, 1, none⟩) :: .slice loa lon loc :: .slice oa na ca :: .pointer (some ⟨wr.heap.size, 2, none⟩) :: .slice sta stn stc :: .slice ob nb cb :: .agg #[.slice oa na ca, .slice ob nb cb] :: u43 :: []).toArray, []⟩ ?_
    refine late_done (by kernel_rfl) ?_
    have HQ : Hid (RS w6 m (k + 1) xs ∧ Fr (fun i => i = m) w1 w6) := ⟨h6, (HZ.out.2.trans (HX.out.2.2.2.2.new g5 (fun _ _ f => f)) (fun _ _ f => f) (fun _ _ f => f.elim)).trans F6 (fun _ _ f => f) (fun _ _ f => f)⟩
    clear h6 F6 ha hb f4 f5 g4 g5 r6
    go_wp2_with fail
    go_roundw
    case rel => exact ⟨k + 1, by go_num, by omega, HQ.out⟩
    case measure => simp [intOf]; omega
  · obtain rfl : k = n := by omega
    clear hrs hfr
    go_wp2_with fail
    go_end0
    exact ⟨rfl, HZ.out.1, HF1.out.up.trans HZ.out.2 (fun _ _ f => f) (fun _ _ f => f)⟩
end Go.Proofs.YtalgjpmaafooeaaGreatDoor
/- At, Depth. -/
namespace Go.Proofs.YtalgjpmaafooeaaGreatDoor
open Go.ChangeShapes Go.WideShapes Go.ChangeAt Go.RowKit
open H (ix NewV)
theorem nil_eqB (w : World) (n c : Nat) : (binOp .eql 56 (.slice none n c) (.slice none 0 0)).run Tryz.prog w = .ok (.bool true) w := by kernel_rfl
theorem some_eqB (w : World) (a : Addr) (n c : Nat) : (binOp .eql 56 (.slice (some a) n c) (.slice none 0 0)).run Tryz.prog w = .ok (.bool false) w := by kernel_rfl
set_option maxRecDepth 100000 in
theorem cloneB_any (w : World) (v : Value) (l : List Bool) (h : H.OwnG elB w v l) (hb : l.length ≤ 1000) :
 Calls Tryz.prog 28 #[v] w fun e w' => ∃ o n c, e = .returned (.slice o n c) ∧ n = l.length ∧ H.OwnG elB w' (.slice o n c) l ∧ Fr no w w' := by
 have hn := nil_eqB
 have hsm := some_eqB
 obtain ⟨o, cap, hv⟩ := h.form
 subst hv
 cases o with
 | none =>
  have hl : l = [] := by
   rcases h.2 with ⟨_, hl⟩ | ⟨g, cp, cur, e, _⟩
   · have := h.1
     cases l with
     | nil => rfl
     | cons a b => simp at hl
   · simp at e
  subst hl
  clear h
  go_enter Tryz.func28, Tryz.ntmps28
  go_wp2_with fail
  go_ret
  exact ⟨none, 0, 0, rfl, rfl, H.OwnG.nil _ _, Fr.refl _ _⟩
 | some ad =>
  have HF : Hid (Fr no w (w.alloc (.cells #[] 4))) := (Fr.refl no w).alloc _ _
  have HS : Hid (H.SlG elB (w.alloc (.cells #[] 4)) (.slice (some ad) l.length cap) l) := (h.keep HF.out).sl
  have HE : Hid (H.OwnG elB (w.alloc (.cells #[] 4)) (.slice (some ⟨w.heap.size, 0, none⟩) 0 0) []) := H.own_lit w [] _ rfl (Nat.zero_le _)
  clear h
  generalize hln : l.length = n at *
  go_enter Tryz.func28, Tryz.ntmps28
  go_wp2_with (first | (at_builtin; refine H.wpList_apdG elB_ok _ rfl rfl _ _ rfl (.slice (some ⟨w.heap.size, 0, none⟩) 0 0) [] rfl HE.out _ rfl l (by rw [hln]; exact hln ▸ HS.out.src elB_ok) (by simp; omega) ?_; intro v' w1 o1 s1) | go_in)
  go_wp2_with fail
  go_ret
  have N0 : NewV w (.slice (some ⟨w.heap.size, 0, none⟩) 0 0) := fun k hk => by
   simp only [Value.ownBlock, Option.some.injEq] at hk
   omega
  obtain ⟨n1, f1⟩ := H.NewV.step N0 HF.out s1
  rw [List.nil_append] at o1
  obtain ⟨o', c', e⟩ := o1.form
  subst e
  exact ⟨o', _, c', rfl, hln, o1, f1⟩
section
variable {w : World} {mb m n : Nat} {xs : List Stt}
theorem RS.look (h : RS w m n xs) {j : Nat} (hj : j < n) (h16 : j < 16) {x : Stt} (hx : xs[j]? = some x) :
 ∃ q : Rf, (Instr.lookup 80 (.map (some m)) (pk j) true).run Tryz.prog w = .ok (.tuple #[rfV q, .bool true]) w ∧ H.OwnG elB w (.slice q.1.a q.1.n q.1.c) (x.lo.map isR) ∧ H.OwnG elB w (.slice q.2.a q.2.n q.2.c) (x.st.map isR) := by
 obtain ⟨f, f1, f2, f3⟩ := h
 obtain ⟨q, q1, q2, q3⟩ := f2 j x hj hx
 obtain ⟨p, p1, p2⟩ := f1.look h16
 rw [p2 q q1, q1] at p1
 exact ⟨q, p1, q2, q3⟩
theorem RS.none (h : RS w m n xs) {j : Nat} (hj : n ≤ j) (h16 : j < 16) : ∃ q : Rf, (Instr.lookup 80 (.map (some m)) (pk j) true).run Tryz.prog w = .ok (.tuple #[rfV q, .bool false]) w := by
 obtain ⟨f, f1, f2, f3⟩ := h
 obtain ⟨p, p1, p2⟩ := f1.look h16
 rw [f3 j hj] at p1
 exact ⟨p, p1⟩
set_option maxRecDepth 100000 in
set_option maxHeartbeats 2000000 in
theorem depth_yes (h : RS w m n xs) (hmb : w.cell? ⟨mb, 0, none⟩ = some (.map (some m))) {j : Nat} (hj : j < n) (h16 : j < 16) {x : Stt} (hx : xs[j]? = some x) :
 Calls Tryz.prog 13 #[.pointer (some ⟨mb, 0, none⟩), .string sMain, .string smain, .int .i64 (j : Int)] w fun e w' => e = .returned (.int .i64 (x.st.length : Int)) ∧ Fr no w w' := by
 obtain ⟨⟨⟨oa, na, ca⟩, ⟨ob, nb, cb⟩⟩, q1, -, q3⟩ := h.look hj h16 hx
 obtain ⟨o', c', e⟩ := q3.form
 simp only [Value.slice.injEq, List.length_map] at e
 have HN : Hid (nb = x.st.length) := e.2.1
 have HF : Hid (Fr no w (w.alloc (.cells #[.slice oa na ca, .slice ob nb cb] 88))) := (Fr.refl no w).alloc _ _
 unfold pk rfV at q1
 simp only at q1
 clear h hx q3 e
 generalize sMain = sM at *
 generalize smain = sm at *
 go_enter Tryz.func13, Tryz.ntmps13
 go_wp2_with fail
 go_ret
 exact ⟨by rw [← HN.out]; rfl, HF.out⟩
set_option maxRecDepth 100000 in
set_option maxHeartbeats 2000000 in
theorem depth_no (h : RS w m n xs) (hmb : w.cell? ⟨mb, 0, none⟩ = some (.map (some m))) {j : Nat} (hj : n ≤ j) (h16 : j < 16) :
 Calls Tryz.prog 13 #[.pointer (some ⟨mb, 0, none⟩), .string sMain, .string smain, .int .i64 (j : Int)] w fun e w' => e = .returned (.int .i64 (-1)) ∧ Fr no w w' := by
 obtain ⟨⟨⟨oa, na, ca⟩, ⟨ob, nb, cb⟩⟩, q1⟩ := h.none hj h16
 have HF : Hid (Fr no w (w.alloc (.cells #[.slice oa na ca, .slice ob nb cb] 88))) := (Fr.refl no w).alloc _ _
 unfold pk rfV at q1
 simp only at q1
 clear h
 generalize sMain = sM at *
 generalize smain = sm at *
 go_enter Tryz.func13, Tryz.ntmps13
 go_wp2_with fail
 go_ret
 exact ⟨rfl, HF.out⟩
set_option maxRecDepth 100000 in
set_option maxHeartbeats 2000000 in
theorem at_yes (h : RS w m n xs) (hmb : w.cell? ⟨mb, 0, none⟩ = some (.map (some m))) {j : Nat} (hj : j < n) (h16 : j < 16) {x : Stt} (hx : xs[j]? = some x) (hl : x.lo.length ≤ 1000 ∧ x.st.length ≤ 1000) :
 Calls Tryz.prog 12 #[.pointer (some ⟨mb, 0, none⟩), .string sMain, .string smain, .int .i64 (j : Int)] w fun e w' => ∃ o1 n1 c1 o2 n2 c2, e = .returned (.tuple #[.slice o1 n1 c1, .slice o2 n2 c2, .bool true]) ∧ n1 = x.lo.length ∧ n2 = x.st.length ∧
  H.OwnG elB w' (.slice o1 n1 c1) (x.lo.map isR) ∧ H.OwnG elB w' (.slice o2 n2 c2) (x.st.map isR) ∧ Fr no w w' := by
 obtain ⟨⟨⟨oa, na, ca⟩, ⟨ob, nb, cb⟩⟩, q1, q2, q3⟩ := h.look hj h16 hx
 simp only at q2 q3
 generalize hW2 : w.alloc (.cells #[.slice oa na ca, .slice ob nb cb] 88) = W2
 have G2 : Fr no w W2 := by rw [← hW2]; exact (Fr.refl no w).alloc _ _
 have E2 : W2.heap[w.heap.size]? = some (.cells #[.slice oa na ca, .slice ob nb cb] 88 (0, 0)) := by rw [← hW2]; exact heap_alloc_new w _
 have HL : Hid (∀ w', Fr no W2 w' → w'.heap[w.heap.size]? = some (.cells #[.slice oa na ca, .slice ob nb cb] 88 (0, 0)) ∧ H.OwnG elB w' (.slice oa na ca) (x.lo.map isR) ∧ H.OwnG elB w' (.slice ob nb cb) (x.st.map isR)) := fun w' hf => ⟨hf.heap E2 (fun f => f), (q2.keep G2).keep hf, (q3.keep G2).keep hf⟩
 have HS0 : Hid (Fr no W2 W2.drew) := (Fr.refl no W2).drew
 have HG : Hid (Fr no w W2) := G2
 have HX : Hid (x.lo.length ≤ 1000 ∧ x.st.length ≤ 1000) := hl
 unfold pk rfV at q1
 simp only at q1
 clear h hx q2 q3 G2 E2 hl
 generalize sMain = sM at *
 generalize smain = sm at *
 go_enter Tryz.func12, Tryz.ntmps12
 go_wp2_with fail
 refine late_begin (S := fun w' => Fr no W2 w') (g := 9) (by kernel_rfl) ?_
 refine lateP 0 (ptr w.heap.size 0) rfl (fun _ => ev_field 88 11 0 (ptr w.heap.size 0) _ rfl (by kernel_rfl) (by kernel_rfl)) (fun _ => HS0.out) ?_
 refine lateN (true :: false :: false :: false :: false :: false :: false :: false :: false :: false :: []).toArray ⟨(ptr mb 0 :: .string sM :: .string sm :: .int .i64 (j : Int) :: undef :: undef :: undef :: undef :: .slice none 0 0 :: .slice none 0 0 :: .bool true :: ptr w.heap.size 0 :: .tuple #[.agg #[.slice oa na ca, .slice ob nb cb], .bool true] :: ptr mb 0 :: ptr mb 0 :: ptr mb 0 :: .map (some m) :: .string sM :: .string sm :: .int .i64 (j : Int) :: .agg #[.string sM, .string sm, .int .i64 (j : Int)] :: .tuple #[.agg #[.slice oa na ca, .slice ob nb cb], .bool true] :: .agg #[.slice oa na ca, .slice ob nb cb] :: .bool true :: ptr w.heap.size 0 :: undef :: undef :: undef :: undef :: undef :: undef :: []).toArray, []⟩ ?_
 refine lateT 1 (.slice oa na ca) rfl (fun wz hz => ev_load 56 24 (ptr w.heap.size 0) _ rfl (by kernel_rfl) (by simp [go_sem, cell_at (o := 0) (HL.out wz hz).1])) HS0.out ?_
 refine lateN (true :: true :: false :: false :: false :: false :: false :: false :: false :: false :: []).toArray ⟨(ptr mb 0 :: .string sM :: .string sm :: .int .i64 (j : Int) :: undef :: undef :: undef :: undef :: .slice none 0 0 :: .slice none 0 0 :: .bool true :: ptr w.heap.size 0 :: .tuple #[.agg #[.slice oa na ca, .slice ob nb cb], .bool true] :: ptr mb 0 :: ptr mb 0 :: ptr mb 0 :: .map (some m) :: .string sM :: .string sm :: .int .i64 (j : Int) :: .agg #[.string sM, .string sm, .int .i64 (j : Int)] :: .tuple #[.agg #[.slice oa na ca, .slice ob nb cb], .bool true] :: .agg #[.slice oa na ca, .slice ob nb cb] :: .bool true :: ptr w.heap.size 0 :: .slice oa na ca :: undef :: undef :: undef :: undef :: undef :: []).toArray, []⟩ ?_
 refine lateP 3 (ptr w.heap.size 1) rfl (fun _ => ev_field 88 11 1 (ptr w.heap.size 0) _ rfl (by kernel_rfl) (by kernel_rfl)) (fun _ => HS0.out) ?_
 refine lateN (true :: true :: false :: true :: false :: false :: false :: false :: false :: false :: []).toArray ⟨(ptr mb 0 :: .string sM :: .string sm :: .int .i64 (j : Int) :: undef :: undef :: undef :: undef :: .slice none 0 0 :: .slice none 0 0 :: .bool true :: ptr w.heap.size 0 :: .tuple #[.agg #[.slice oa na ca, .slice ob nb cb], .bool true] :: ptr mb 0 :: ptr mb 0 :: ptr mb 0 :: .map (some m) :: .string sM :: .string sm :: .int .i64 (j : Int) :: .agg #[.string sM, .string sm, .int .i64 (j : Int)] :: .tuple #[.agg #[.slice oa na ca, .slice ob nb cb], .bool true] :: .agg #[.slice oa na ca, .slice ob nb cb] :: .bool true :: ptr w.heap.size 0 :: .slice oa na ca :: undef :: ptr w.heap.size 1 :: undef :: undef :: undef :: []).toArray, []⟩ ?_
 refine lateT 4 (.slice ob nb cb) rfl (fun wz hz => ev_load 56 27 (ptr w.heap.size 1) _ rfl (by kernel_rfl) (by simp [go_sem, cell_at (o := 1) (HL.out wz hz).1])) HS0.out ?_
 refine lateN (true :: true :: false :: true :: true :: false :: false :: false :: false :: false :: []).toArray ⟨(ptr mb 0 :: .string sM :: .string sm :: .int .i64 (j : Int) :: undef :: undef :: undef :: undef :: .slice none 0 0 :: .slice none 0 0 :: .bool true :: ptr w.heap.size 0 :: .tuple #[.agg #[.slice oa na ca, .slice ob nb cb], .bool true] :: ptr mb 0 :: ptr mb 0 :: ptr mb 0 :: .map (some m) :: .string sM :: .string sm :: .int .i64 (j : Int) :: .agg #[.string sM, .string sm, .int .i64 (j : Int)] :: .tuple #[.agg #[.slice oa na ca, .slice ob nb cb], .bool true] :: .agg #[.slice oa na ca, .slice ob nb cb] :: .bool true :: ptr w.heap.size 0 :: .slice oa na ca :: undef :: ptr w.heap.size 1 :: .slice ob nb cb :: undef :: undef :: []).toArray, []⟩ ?_
 refine lateP 6 (.bool true) rfl (fun _ => ev_move 10 _ rfl (by kernel_rfl)) (fun _ => HS0.out) ?_
 refine lateN (true :: true :: false :: true :: true :: false :: true :: false :: false :: false :: []).toArray ⟨(ptr mb 0 :: .string sM :: .string sm :: .int .i64 (j : Int) :: undef :: undef :: undef :: undef :: .slice none 0 0 :: .slice none 0 0 :: .bool true :: ptr w.heap.size 0 :: .tuple #[.agg #[.slice oa na ca, .slice ob nb cb], .bool true] :: ptr mb 0 :: ptr mb 0 :: ptr mb 0 :: .map (some m) :: .string sM :: .string sm :: .int .i64 (j : Int) :: .agg #[.string sM, .string sm, .int .i64 (j : Int)] :: .tuple #[.agg #[.slice oa na ca, .slice ob nb cb], .bool true] :: .agg #[.slice oa na ca, .slice ob nb cb] :: .bool true :: ptr w.heap.size 0 :: .slice oa na ca :: undef :: ptr w.heap.size 1 :: .slice ob nb cb :: undef :: .bool true :: []).toArray, []⟩ ?_
 refine late_all [2] (by kernel_rfl) (by simp) (fun jj hjj => ?_)
 simp only [List.mem_singleton] at hjj
 subst hjj
 refine late_call (f := 28) rfl rfl (vals := #[.slice oa na ca]) (by kernel_rfl) (R := fun v w' => ∃ o n c, v = .slice o n c ∧ n = (x.lo.map isR).length ∧ H.OwnG elB w' (.slice o n c) (x.lo.map isR) ∧ Fr no W2.drew w') ((cloneB_any W2.drew _ _ (HL.out _ HS0.out).2.1 (by rw [List.length_map]; exact HX.out.1)).mono (fun e w' ⟨o, n, c, h1, h2⟩ => ⟨_, h1, o, n, c, rfl, h2⟩)) (fun v w4 hv => ?_)
 obtain ⟨o1, n1, c1, rfl, k1, ha, f4⟩ := hv
 have g4 : Fr no W2 w4 := HS0.out.new f4 (fun _ _ f => f)
 refine ⟨fun _ => g4, ?_⟩
 refine lateN (true :: true :: true :: true :: true :: false :: true :: false :: false :: false :: []).toArray ⟨(ptr mb 0 :: .string sM :: .string sm :: .int .i64 (j : Int) :: undef :: undef :: undef :: undef :: .slice none 0 0 :: .slice none 0 0 :: .bool true :: ptr w.heap.size 0 :: .tuple #[.agg #[.slice oa na ca, .slice ob nb cb], .bool true] :: ptr mb 0 :: ptr mb 0 :: ptr mb 0 :: .map (some m) :: .string sM :: .string sm :: .int .i64 (j : Int) :: .agg #[.string sM, .string sm, .int .i64 (j : Int)] :: .tuple #[.agg #[.slice oa na ca, .slice ob nb cb], .bool true] :: .agg #[.slice oa na ca, .slice ob nb cb] :: .bool true :: ptr w.heap.size 0 :: .slice oa na ca :: .slice o1 n1 c1 :: ptr w.heap.size 1 :: .slice ob nb cb :: undef :: .bool true :: []).toArray, []⟩ ?_
 refine late_all [5] (by kernel_rfl) (by simp) (fun jj hjj => ?_)
 simp only [List.mem_singleton] at hjj
 subst hjj
 refine late_call (f := 28) rfl rfl (vals := #[.slice ob nb cb]) (by kernel_rfl) (R := fun v w' => ∃ o n c, v = .slice o n c ∧ n = (x.st.map isR).length ∧ H.OwnG elB w' (.slice o n c) (x.st.map isR) ∧ Fr no w4 w') ((cloneB_any w4 _ _ (HL.out _ g4).2.2 (by rw [List.length_map]; exact HX.out.2)).mono (fun e w' ⟨o, n, c, h1, h2⟩ => ⟨_, h1, o, n, c, rfl, h2⟩)) (fun v w5 hv => ?_)
 obtain ⟨o2, n2, c2, rfl, k2, hb, f5⟩ := hv
 have g5 : Fr no W2 w5 := g4.new f5 (fun _ _ f => f)
 refine ⟨fun _ => g5, ?_⟩
 refine lateN (true :: true :: true :: true :: true :: true :: true :: false :: false :: false :: []).toArray ⟨(ptr mb 0 :: .string sM :: .string sm :: .int .i64 (j : Int) :: undef :: undef :: undef :: undef :: .slice none 0 0 :: .slice none 0 0 :: .bool true :: ptr w.heap.size 0 :: .tuple #[.agg #[.slice oa na ca, .slice ob nb cb], .bool true] :: ptr mb 0 :: ptr mb 0 :: ptr mb 0 :: .map (some m) :: .string sM :: .string sm :: .int .i64 (j : Int) :: .agg #[.string sM, .string sm, .int .i64 (j : Int)] :: .tuple #[.agg #[.slice oa na ca, .slice ob nb cb], .bool true] :: .agg #[.slice oa na ca, .slice ob nb cb] :: .bool true :: ptr w.heap.size 0 :: .slice oa na ca :: .slice o1 n1 c1 :: ptr w.heap.size 1 :: .slice ob nb cb :: .slice o2 n2 c2 :: .bool true :: []).toArray, []⟩ ?_
 refine late_all [7] (by kernel_rfl) (by simp) (fun jj hjj => ?_)
 simp only [List.mem_singleton] at hjj
 subst hjj
 refine late_op rfl rfl (ev_assign 26 (.slice o1 n1 c1) rfl (by kernel_rfl)) ?_
 refine ⟨fun _ => g5, ?_⟩
 refine lateN (true :: true :: true :: true :: true :: true :: true :: true :: false :: false :: []).toArray ⟨(ptr mb 0 :: .string sM :: .string sm :: .int .i64 (j : Int) :: undef :: undef :: undef :: undef :: .slice o1 n1 c1 :: .slice none 0 0 :: .bool true :: ptr w.heap.size 0 :: .tuple #[.agg #[.slice oa na ca, .slice ob nb cb], .bool true] :: ptr mb 0 :: ptr mb 0 :: ptr mb 0 :: .map (some m) :: .string sM :: .string sm :: .int .i64 (j : Int) :: .agg #[.string sM, .string sm, .int .i64 (j : Int)] :: .tuple #[.agg #[.slice oa na ca, .slice ob nb cb], .bool true] :: .agg #[.slice oa na ca, .slice ob nb cb] :: .bool true :: ptr w.heap.size 0 :: .slice oa na ca :: .slice o1 n1 c1 :: ptr w.heap.size 1 :: .slice ob nb cb :: .slice o2 n2 c2 :: .bool true :: []).toArray, []⟩ ?_
 refine late_all [8] (by kernel_rfl) (by simp) (fun jj hjj => ?_)
 simp only [List.mem_singleton] at hjj
 subst hjj
 refine late_op rfl rfl (ev_assign 29 (.slice o2 n2 c2) rfl (by kernel_rfl)) ?_
 refine ⟨fun _ => g5, ?_⟩
 refine lateN (true :: true :: true :: true :: true :: true :: true :: true :: true :: false :: []).toArray ⟨(ptr mb 0 :: .string sM :: .string sm :: .int .i64 (j : Int) :: undef :: undef :: undef :: undef :: .slice o1 n1 c1 :: .slice o2 n2 c2 :: .bool true :: ptr w.heap.size 0 :: .tuple #[.agg #[.slice oa na ca, .slice ob nb cb], .bool true] :: ptr mb 0 :: ptr mb 0 :: ptr mb 0 :: .map (some m) :: .string sM :: .string sm :: .int .i64 (j : Int) :: .agg #[.string sM, .string sm, .int .i64 (j : Int)] :: .tuple #[.agg #[.slice oa na ca, .slice ob nb cb], .bool true] :: .agg #[.slice oa na ca, .slice ob nb cb] :: .bool true :: ptr w.heap.size 0 :: .slice oa na ca :: .slice o1 n1 c1 :: ptr w.heap.size 1 :: .slice ob nb cb :: .slice o2 n2 c2 :: .bool true :: []).toArray, []⟩ ?_
 refine late_all [9] (by kernel_rfl) (by simp) (fun jj hjj => ?_)
 simp only [List.mem_singleton] at hjj
 subst hjj
 refine late_op rfl rfl (ev_assign 30 (.bool true) rfl (by kernel_rfl)) ?_
 refine ⟨(fun h => by simp at h), ?_⟩
 refine lateN (true :: true :: true :: true :: true :: true :: true :: true :: true :: true :: []).toArray ⟨(ptr mb 0 :: .string sM :: .string sm :: .int .i64 (j : Int) :: undef :: undef :: undef :: undef :: .slice o1 n1 c1 :: .slice o2 n2 c2 :: .bool true :: ptr w.heap.size 0 :: .tuple #[.agg #[.slice oa na ca, .slice ob nb cb], .bool true] :: ptr mb 0 :: ptr mb 0 :: ptr mb 0 :: .map (some m) :: .string sM :: .string sm :: .int .i64 (j : Int) :: .agg #[.string sM, .string sm, .int .i64 (j : Int)] :: .tuple #[.agg #[.slice oa na ca, .slice ob nb cb], .bool true] :: .agg #[.slice oa na ca, .slice ob nb cb] :: .bool true :: ptr w.heap.size 0 :: .slice oa na ca :: .slice o1 n1 c1 :: ptr w.heap.size 1 :: .slice ob nb cb :: .slice o2 n2 c2 :: .bool true :: []).toArray, []⟩ ?_
 refine late_done (by kernel_rfl) ?_
 have HQ : Hid (n1 = x.lo.length ∧ n2 = x.st.length ∧ H.OwnG elB w5 (.slice o1 n1 c1) (x.lo.map isR) ∧ H.OwnG elB w5 (.slice o2 n2 c2) (x.st.map isR) ∧ Fr no w w5) := ⟨by rw [k1, List.length_map], by rw [k2, List.length_map], ha.keep f5, hb, HG.out.new g5 (fun _ _ f => f)⟩
 clear k1 k2 ha hb f4 f5 g4 g5
 go_wp2_with fail
 refine bodyPost_ret (v := .tuple #[.slice o1 n1 c1, .slice o2 n2 c2, .bool true]) (by kernel_rfl) (by kernel_rfl) ?_
 exact ⟨o1, n1, c1, o2, n2, c2, rfl, HQ.out⟩
end
end Go.Proofs.YtalgjpmaafooeaaGreatDoor
/- Of: the maps of a program of one class with one method. -/
namespace Go.Proofs.YtalgjpmaafooeaaGreatDoor
open Go.ChangeShapes Go.WideShapes Go.ChangeAt Go.RowKit
open H (ky Owns MapOf ix NewV obj fault)
theorem mk80 (w : World) : (Instr.makeMap 80 none).run Tryz.prog w = .ok (.map (some w.heap.size)) (w.alloc (.map #[] 0)) := by kernel_rfl
theorem Fr.allocM {S : Nat → Prop} (w : World) : Fr S w (w.alloc (.map #[] 0)) :=
 ⟨rfl, rfl, by show w.heap.size ≤ (w.heap.push _).size; simp, fun k hk _ => Below.heap_alloc w _ k hk, fun x hx => by
  have hlt : x.block < w.heap.size := hx
  unfold World.frozen?
  rw [Below.heap_alloc w _ x.block hlt]⟩
variable {lo st : Int} {ts : List Ty} {cd : List (Int × Int)} {pool : List Cs} {fuel : Nat} {res : Int × Ps}
set_option maxRecDepth 100000 in
set_option maxHeartbeats 4000000 in
theorem rOf_any (h : Asked lo st ts cd pool fuel res) (lf : Nat) (lr : Bool × Wk) (hl : fitsP cd lf (comeP 0 [] (wk0 cd.length)).2 = some lr) (h0 : res.1 = 0) (h1 : lr.1 = true) (hn : cd.length ≤ 15) (hx : ∀ x ∈ res.2.1, x.r = true)
 (w : World) (p : Nat) (P : Prg w p (allC [mainK lo st cd pool]) (newC [mainK lo st cd pool]).2.2) (hsm : ∀ c ∈ allC [mainK lo st cd pool], SmallC c) (tr : Tr w) :
 Calls Tryz.prog 11 #[.pointer (some ⟨p, 0, none⟩)] w fun e w' => ∃ mb m, e = .returned (.tuple #[.pointer (some ⟨mb, 0, none⟩), .int .i64 0]) ∧ w'.cell? ⟨mb, 0, none⟩ = some (.map (some m)) ∧ RS w' m cd.length res.2.1 ∧ Fr no w w' := by
 have len3 : (allC [mainK lo st cd pool]).length = 3 := rfl
 have he0 : lockE res.1 lr.1 = 0 := by rw [h0, h1]; rfl
 have AL := lAsked_all h lf lr hl w p P hsm tr
 rw [he0] at AL
 have HLM : Hid (∀ w', Fr no w w' → Calls Tryz.prog 15 #[.pointer (some ⟨p, 0, none⟩), .string sMain, .string smain] w' fun e w2 => ∃ S C c, e = .returned (.tuple #[.slice (some ⟨S, 0, none⟩) cd.length cd.length, .int .i64 0]) ∧ Fl w2 S C c cd.length res.2.1 res.2.2 ∧ Fr no w' w2) := fun w' hf => by
  refine (lMethod_any h lf lr hl w' p (P.keep hf) hsm (tr.kept hf)).mono ?_
  rintro e w2 ⟨v, S, C, c, rfl, f2, hz⟩
  rw [he0] at hz ⊢
  obtain ⟨rfl, fl, -⟩ := hz rfl
  exact ⟨S, C, c, rfl, fl, f2⟩
 have HP : Hid (Prg w p (allC [mainK lo st cd pool]) (newC [mainK lo st cd pool]).2.2) := P
 have HS : Hid (∀ c ∈ allC [mainK lo st cd pool], SmallC c) := hsm
 have HN : Hid (∀ i, i < 3 → ix (clsAt (allC [mainK lo st cd pool]) i).name (namesOf (allC [mainK lo st cd pool])) = some i ∧ (clsAt (allC [mainK lo st cd pool]) i).name.size ≤ 1099511627776 ∧ (clsAt (allC [mainK lo st cd pool]) i).name ≠ ⟨#[]⟩) := fun i hi => by
  match i, hi with
  | 0, _ => exact ⟨show ix obj [obj, fault, sMain] = some 0 by decide, show obj.size ≤ 1099511627776 by decide, show obj ≠ ⟨#[]⟩ by decide⟩
  | 1, _ => exact ⟨show ix fault [obj, fault, sMain] = some 1 by decide, show fault.size ≤ 1099511627776 by decide, show fault ≠ ⟨#[]⟩ by decide⟩
  | 2, _ => exact ⟨show ix sMain [obj, fault, sMain] = some 2 by decide, show sMain.size ≤ 1099511627776 by decide, show sMain ≠ ⟨#[]⟩ by decide⟩
 have HMS : Hid (∀ i, i < 3 → (i < 2 ∧ (clsAt (allC [mainK lo st cd pool]) i).methods = []) ∨ (i = 2 ∧ (clsAt (allC [mainK lo st cd pool]) i).methods = [mainN lo st cd] ∧ (clsAt (allC [mainK lo st cd pool]) i).name = sMain)) := fun i hi => by
  match i, hi with
  | 0, _ => exact .inl ⟨by omega, rfl⟩
  | 1, _ => exact .inl ⟨by omega, rfl⟩
  | 2, _ => exact .inr ⟨rfl, rfl, rfl⟩
 have HR : Hid (∀ x ∈ res.2.1, x.r = true) := hx
 have mk := mk80
 clear h hl h0 h1 P hsm tr hx he0
 generalize hcs : allC [mainK lo st cd pool] = Cs at *
 generalize hA : (newC [mainK lo st cd pool]).2.2 = A at *
 generalize hxs : res.2.1 = xs at *
 generalize hch : res.2.2 = ch at *
 go_enter Tryz.func11, Tryz.ntmps11
 go_wp2_with fail
 refine AL.mono ?_
 rintro _ w1 ⟨rfl, f1⟩
 generalize hWm : w1.alloc (.map #[] 0) = Wm
 have Gm : Fr no w1 Wm := by rw [← hWm]; exact Fr.allocM w1
 have RM0 : RS Wm w1.heap.size 0 xs := by
  rw [← hWm]
  exact ⟨_, RM.made w1, fun j x hj => by omega, fun j _ => rfl⟩
 have sm : Wm.heap.size = w1.heap.size + 1 := by rw [← hWm]; exact size_alloc _ _
 generalize hWb : Wm.alloc (.cells #[.map (some w1.heap.size)] 82) = Wb
 have Gb : Fr no Wm Wb := by rw [← hWb]; exact (Fr.refl no Wm).alloc _ _
 have cb : Wb.cell? ⟨Wm.heap.size, 0, none⟩ = some (.map (some w1.heap.size)) := by rw [← hWb]; exact cell_at (o := 0) (heap_alloc_new Wm _)
 have HB : Hid (Fr no w Wb ∧ RS Wb w1.heap.size 0 xs ∧ Wb.cell? ⟨Wm.heap.size, 0, none⟩ = some (.map (some w1.heap.size)) ∧ w.heap.size ≤ w1.heap.size ∧ Wm.heap.size ≠ w1.heap.size) :=
  ⟨(f1.new Gm (fun _ _ f => f)).new Gb (fun _ _ f => f), RM0.keep Gb, cb, f1.size, by omega⟩
 clear AL f1 Gm Gb RM0 cb sm
 go_wp2_with fail
 generalize hmB : Wm.heap.size = mb at *
 generalize hmm : w1.heap.size = m at *
 have HNE : Hid (mb ≠ m) := HB.out.2.2.2.2
 have HGE : Hid (w.heap.size ≤ m) := HB.out.2.2.2.1
 go_loopw [6] (fun iv wr => ∃ k : Nat, iv = .int .i64 (k : Int) ∧ k ≤ 3 ∧ Fr no w wr ∧ wr.cell? ⟨mb, 0, none⟩ = some (.map (some m)) ∧ (k ≤ 2 → RS wr m 0 xs) ∧ (k = 3 → RS wr m cd.length xs)) (fun iv _ => 3 - (intOf iv).toNat)
 case atStart => exact ⟨0, rfl, Nat.zero_le _, HB.out.1, HB.out.2.2.1, fun _ => HB.out.2.1, fun e => by omega⟩
 case round =>
  clear HB
  obtain ⟨k, rfl, hk, fr, cm, r0, r3⟩ := hrel
  have HF : Hid (Fr no w wr) := fr
  have HC : Hid (wr.cell? ⟨mb, 0, none⟩ = some (.map (some m)) ∧ (k ≤ 2 → RS wr m 0 xs) ∧ (k = 3 → RS wr m cd.length xs)) := ⟨cm, r0, r3⟩
  clear cm r0 r3
  by_cases hlt : k < 3
  · have N1 := name_any wr p Cs A (HP.out.keep fr) k (by omega)
    have hne : ((clsAt Cs k).name.toList == []) = false := by
     have h3 := (HN.out k hlt).2.2
     cases hl : (clsAt Cs k).name.toList with
     | nil => exact absurd hl (emp_ne _ h3)
     | cons a l => rfl
    obtain ⟨n1, n2, n3⟩ := HN.out k hlt
    clear fr
    go_wp2_with fail
    refine N1.mono ?_
    rintro e w2 ⟨rfl, f2⟩
    have F2 : Fr no w w2 := HF.out.new f2 (fun _ _ f => f)
    have N2 := name_any w2 p Cs A (HP.out.keep F2) k (by omega)
    clear N1
    go_wp2_with fail
    refine N2.mono ?_
    rintro e w3 ⟨rfl, f3⟩
    have F3 : Fr no w w3 := F2.new f3 (fun _ _ f => f)
    have CL := class_any w3 p Cs A (HP.out.keep F3) HS.out (clsAt Cs k).name n2 k n1
    have fr3 : Fr no wr w3 := f2.new f3 (fun _ _ f => f)
    clear N2 f2 f3 F2 n1 n2 n3 hne
    go_wp2_with fail
    refine CL.mono ?_
    rintro e w4 ⟨⟨kn, ks, ⟨kpa, kpn, kpc⟩, ⟨kfa, kfn, kfc⟩, ⟨kma, kmn, kmc⟩⟩, rfl, oc, f4⟩
    have F4 : Fr no w w4 := F3.new f4 (fun _ _ f => f)
    generalize hW5 : w4.alloc (.cells #[.string kn, .string ks, .slice kpa kpn kpc, .slice kfa kfn kfc, .slice kma kmn kmc] 51) = w5
    have G5 : Fr no w4 w5 := by rw [← hW5]; exact (Fr.refl no w4).alloc _ _
    have E5 : w5.heap[w4.heap.size]? = some (.cells #[.string kn, .string ks, .slice kpa kpn kpc, .slice kfa kfn kfc, .slice kma kmn kmc] 51 (0, 0)) := by rw [← hW5]; exact heap_alloc_new w4 _
    have F5 : Fr no w w5 := F4.new G5 (fun _ _ f => f)
    have fr5 : Fr no wr w5 := (fr3.new f4 (fun _ _ f => f)).new G5 (fun _ _ f => f)
    have oc5 := oc.keep G5
    have E54 := cell_at (o := 4) E5
    simp at E54
    obtain ⟨ls, o1, o2, o3⟩ := oc5.m
    clear CL f4 F3 oc G5 fr3
    unfold ksV
    simp only at o1 ⊢
    rcases HMS.out k hlt with ⟨hk2, hm0⟩ | ⟨hk2, hms, hnm⟩
    · rw [hm0] at o2
      obtain rfl : ls = [] := List.eq_nil_of_length_eq_zero o2
      obtain rfl := o1.nil0.1
      have HZ : Hid (Fr no w w5 ∧ w5.cell? ⟨mb, 0, none⟩ = some (.map (some m)) ∧ RS w5 m 0 xs) := ⟨F5, fr5.cell HC.out.1 (fun f => f), (HC.out.2.1 (by omega)).keep fr5⟩
      clear o1 o2 o3 oc5 E5 F5 F4 fr5 hm0
      go_wp2_with fail
      go_loopw [36] (fun i wr => i = .int .i64 0 ∧ wr = w5) (fun _ _ => 0)
      case atStart => exact ⟨rfl, rfl⟩
      case round =>
       obtain ⟨rfl, rfl⟩ := hrel
       go_wp2_with fail
       go_roundw
       case rel => exact ⟨k + 1, by go_num, by omega, HZ.out.1, HZ.out.2.1, fun _ => HZ.out.2.2, fun e => by omega⟩
       case measure => simp [intOf]; omega
    · rw [hms] at o2 o3
      obtain ⟨x, rfl⟩ : ∃ x, ls = [x] := by
       match ls, o2 with
       | [y], _ => exact ⟨y, rfl⟩
      have om := o3 0 x _ rfl rfl
      obtain ⟨q1, k1, hv1⟩ := o1.form
      simp only [List.length_singleton, Value.slice.injEq] at hv1
      obtain ⟨-, rfl, -⟩ := hv1
      obtain ⟨ad, cap, e, hc1, hc2, hit⟩ := o1.sl okMs
      simp only [Value.slice.injEq] at e
      obtain ⟨rfl, -, rfl⟩ := e
      obtain ⟨qb, qo, rfl, hcx⟩ := hit 0 x rfl
      have c0 : w5.cell? ⟨qb, qo, none⟩ = some (.string x.name) := by simpa using hcx 0 _ rfl
      have c1 : w5.cell? ⟨qb, qo + 1, none⟩ = some (.slice x.p.a x.p.n x.p.c) := by simpa using hcx 1 _ rfl
      have c2 : w5.cell? ⟨qb, qo + 2, none⟩ = some (.int .i64 x.ret.k) := by simpa using hcx 2 _ rfl
      have c3 : w5.cell? ⟨qb, qo + 3, none⟩ = some (.string x.ret.c) := by simpa using hcx 3 _ rfl
      have c4 : w5.cell? ⟨qb, qo + 4, none⟩ = some (.int .i64 x.lo) := by simpa using hcx 4 _ rfl
      have c5 : w5.cell? ⟨qb, qo + 5, none⟩ = some (.int .i64 x.st) := by simpa using hcx 5 _ rfl
      have c6 : w5.cell? ⟨qb, qo + 6, none⟩ = some (.slice x.c.a x.c.n x.c.c) := by simpa using hcx 6 _ rfl
      have c7 : w5.cell? ⟨qb, qo + 7, none⟩ = some (.slice x.h.a x.h.n x.h.c) := by simpa using hcx 7 _ rfl
      generalize hW6 : w5.alloc (.cells #[.string x.name, .slice x.p.a x.p.n x.p.c, .int .i64 x.ret.k, .string x.ret.c, .int .i64 x.lo, .int .i64 x.st, .slice x.c.a x.c.n x.c.c, .slice x.h.a x.h.n x.h.c] 47) = w6
      have G6 : Fr no w5 w6 := by rw [← hW6]; exact (Fr.refl no w5).alloc _ _
      have E6 : w6.heap[w5.heap.size]? = some (.cells #[.string x.name, .slice x.p.a x.p.n x.p.c, .int .i64 x.ret.k, .string x.ret.c, .int .i64 x.lo, .int .i64 x.st, .slice x.c.a x.c.n x.c.c, .slice x.h.a x.h.n x.h.c] 47 (0, 0)) := by rw [← hW6]; exact heap_alloc_new w5 _
      have F6 : Fr no w w6 := F5.new G6 (fun _ _ f => f)
      have fr6 : Fr no wr w6 := fr5.new G6 (fun _ _ f => f)
      have TE := tell_any w6 mb m p (fr6.cell HC.out.1 (fun f => f)) HNE.out xs ch ((HC.out.2.1 (by omega)).keep fr6) cd.length hn HR.out (HLM.out w6 F6)
      have e1 : kn = sMain := oc5.name.trans hnm
      have e2 : x.name = smain := om.name
      have HT : Hid (Fr no w w6 ∧ w6.cell? ⟨mb, 0, none⟩ = some (.map (some m))) := ⟨F6, fr6.cell HC.out.1 (fun f => f)⟩
      obtain ⟨a0, a1, a2, a3, a4⟩ := bx5 (G6.heap E5 (fun f => f))
      obtain ⟨b0, b1, b2, b3, b4, b5, b6, b7⟩ := bx8 E6
      rw [← e1, ← e2] at TE
      clear o1 o2 o3 oc5 E5 F5 F4 G6 E6 F6 fr5 fr6 om hcx hit hc1 hc2 hms hnm e1 e2
      have HK2 : Hid (k = 2) := hk2
      clear hk2
      generalize hcl : cd.length = cl at *
      go_wp2_with fail
      go_loopw [36] (fun i wr => (i = .int .i64 0 ∧ wr = w5) ∨ (i = .int .i64 1 ∧ Fr no w wr ∧ wr.cell? ⟨mb, 0, none⟩ = some (.map (some m)) ∧ RS wr m cl xs)) (fun i _ => 1 - (intOf i).toNat)
      case atStart => exact .inl ⟨rfl, rfl⟩
      case round =>
       rcases hrel with ⟨rfl, rfl⟩ | ⟨rfl, fq, cq, rq⟩
       · go_wp2_with fail
         refine TE.mono ?_
         rintro e w7 ⟨rfl, rs7, f7⟩
         have H7 : Hid (Fr no w w7 ∧ w7.cell? ⟨mb, 0, none⟩ = some (.map (some m)) ∧ RS w7 m cl xs) := ⟨HT.out.1.new f7 (fun i hi e => by have := HGE.out; omega), f7.cell HT.out.2 HNE.out, rs7⟩
         clear TE rs7 f7
         go_wp2_with fail
         go_roundw
         case rel => exact .inr ⟨rfl, H7.out⟩
         case measure => simp [intOf]
       · have H7 : Hid (Fr no w wr ∧ wr.cell? ⟨mb, 0, none⟩ = some (.map (some m)) ∧ RS wr m cl xs) := ⟨fq, cq, rq⟩
         clear fq cq rq
         go_wp2_with fail
         go_roundw
         case rel => exact ⟨k + 1, by go_num, by omega, H7.out.1, H7.out.2.1, fun e => by have := HK2.out; omega, fun _ => by rw [hcl]; exact H7.out.2.2⟩
         case measure => simp [intOf]; omega
  · obtain rfl : k = 3 := by omega
    have N1 := nameEnd_any wr p Cs A (HP.out.keep fr)
    rw [len3] at N1
    clear fr
    go_wp2_with fail
    refine N1.mono ?_
    rintro e w2 ⟨rfl, f2⟩
    have H2 : Hid (w2.cell? ⟨mb, 0, none⟩ = some (.map (some m)) ∧ RS w2 m cd.length xs ∧ Fr no w w2) := ⟨f2.cell HC.out.1 (fun f => f), (HC.out.2.2 trivial).keep f2, HF.out.new f2 (fun _ _ f => f)⟩
    clear N1 f2
    go_wp2_with fail
    go_ret2
    exact ⟨mb, m, rfl, H2.out⟩
end Go.Proofs.YtalgjpmaafooeaaGreatDoor
