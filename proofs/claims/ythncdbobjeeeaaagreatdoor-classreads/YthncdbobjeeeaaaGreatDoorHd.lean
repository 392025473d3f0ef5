/- What the document writes: counts, types, constants. -/
import Derived.Test.YthncdbobjeeeaaaGreatDoorGl
import Derived.Deep.RegionHeld3
namespace Go.Proofs.YthncdbobjeeeaaaGreatDoor
open Go.ChangeShapes Go.WideShapes Go.ChangeAt Go.RowKit

theorem ref_num (w : World) (u : Value) (l : List Nat) (h : Own w u l) (hb : l.length + 10 ≤ 1099511627776) (n : Nat) (hn : n < 2 ^ 62) :
    Calls Tryz.prog 82 #[u, .int .i64 (n : Int)] w fun e w' => ∃ u', e = .returned u' ∧ Own w' u' (l ++ enc n) ∧ Sp no u w u' w' := by
  have U := ref_uint w u l h hb n (by omega)
  have hwn : IntKind.u64.wrap (n : Int) = (n : Int) := by simp [IntKind.wrap, IntKind.signed, IntKind.bits]; omega
  obtain ⟨uo, un, uc, rfl⟩ := h.form
  go_enter Tryz.func82, Tryz.ntmps82
  go_wp2_with fail
  refine U.mono ?_
  rintro e w1 ⟨u1, rfl, o1, s1⟩
  obtain ⟨uo', un', uc', rfl⟩ := o1.form
  go_wp2_with fail
  go_ret
  exact ⟨_, rfl, o1, s1⟩

set_option maxRecDepth 100000 in
theorem ref_typ (w : World) (u : Value) (l : List Nat) (h : Own w u l) (hb : l.length + 100 ≤ 1099511627776) (t : Ty) (ht : VTy t) :
    Calls Tryz.prog 85 #[u, .agg #[.int .i64 t.k, .string t.c]] w fun e w' => ∃ u', e = .returned u' ∧ Own w' u' (l ++ enTy t) ∧ Sp no u w u' w' := by
  obtain ⟨k, c⟩ := t
  obtain ⟨h1, h2, h3, h4⟩ := ht
  simp only [] at *
  obtain ⟨n, rfl⟩ : ∃ n : Nat, k = (n : Int) := ⟨k.toNat, by omega⟩
  have hw8 : IntKind.u8.wrap (n : Int) = (n : Int) := u8_small n (by omega)
  have f0 : Fr no w (w.alloc (.cells #[.int .i64 (n : Int), .string c] 46)) := (Fr.refl no w).alloc _ _
  have b0 := heap_alloc_new w (.cells #[.int .i64 (n : Int), .string c] 46)
  generalize hW0 : w.alloc (.cells #[.int .i64 (n : Int), .string c] 46) = W0 at *
  obtain ⟨c0, c1⟩ := box2 b0
  have hS := src_one W0 n
  have oA := own_alloc (h.kept f0 (fun _ _ f => f)) #[.int .u8 ((n : Nat) : Int)] 5
  have fA : Fr no w (W0.alloc (.cells #[.int .u8 ((n : Nat) : Int)] 5)) := f0.alloc _ _
  have hbb : l.length + ([n] : List Nat).length ≤ 1099511627776 := by simp; omega
  have HFC : Hid (∀ w5 u5, Sp no u (W0.alloc (.cells #[.int .u8 ((n : Nat) : Int)] 5)) u5 w5 → w5.cell? ⟨w.heap.size, 0, none⟩ = some (.int .i64 (n : Int)) ∧ w5.cell? ⟨w.heap.size, 1, none⟩ = some (.string c) ∧ Sp no u w u5 w5) := fun w5 u5 s5 => by
    have hu : ¬ (u.ownBlock = some w.heap.size) := fun e => by have := h.lt e; omega
    have s6 := Sp.after fA s5 (fun _ _ f => f)
    have hh := s5.1.heap (((Fr.refl no _).alloc _ _).heap b0 (fun f => f)) (fun e => e.elim (fun f => f) (fun e => hu e))
    have := box2 hh
    exact ⟨this.1, this.2, s6⟩
  clear b0 f0 fA
  obtain ⟨uo, un, uc, rfl⟩ := h.form
  clear h
  by_cases hn4 : n = 4
  · have hn4' : ((n : Int) == 4) = true := by simp; omega
    have HE : Hid (enTy ⟨(n : Int), c⟩ = [n] ++ (enc c.size ++ nl c)) := by show _ = _; rw [hn4]; rfl
    clear hn4
    go_enter Tryz.func85, Tryz.ntmps85
    go_wp2_with (at_builtin; refine wpList_apd _ rfl rfl (.tmp 5) (.tmp 9) 22 rfl _ l rfl oA _ rfl [n] hS hbb ?_; intro u5 w5 o5 s5; obtain ⟨e0, e1, s6⟩ := HFC.out w5 u5 s5; obtain ⟨uo', un', uc', rfl⟩ := o5.form)
    refine (ref_text w5 _ (l ++ [n]) o5 c (by simp; omega)).mono ?_
    rintro e w6 ⟨u6, rfl, o6, s7⟩
    obtain ⟨uo6, un6, uc6, rfl⟩ := o6.form
    go_wp2_with fail
    go_ret
    refine ⟨_, rfl, ?_, s6.trans s7⟩
    rw [HE.out, ← List.append_assoc]
    exact o6
  · have hn4' : ((n : Int) == 4) = false := by simp; omega
    have HE : Hid (enTy ⟨(n : Int), c⟩ = [n]) := by show _ = _; unfold enTy; simp only []; rw [if_neg (by omega)]; simp
    go_enter Tryz.func85, Tryz.ntmps85
    go_wp2_with (at_builtin; refine wpList_apd _ rfl rfl (.tmp 5) (.tmp 9) 22 rfl _ l rfl oA _ rfl [n] hS hbb ?_; intro u5 w5 o5 s5; obtain ⟨e0, e1, s6⟩ := HFC.out w5 u5 s5; obtain ⟨uo', un', uc', rfl⟩ := o5.form)
    go_ret
    rw [HE.out]
    exact ⟨_, rfl, o5, s6⟩


/-- A writer's bytes: what uP was in wP is u in w. -/
structure Wp (uP : Value) (wP : World) (bnd : Nat) (u : Value) (L : List Nat) (w : World) : Prop where
  own : Own w u L
  sp : Sp no uP wP u w
  ln : L.length ≤ bnd

theorem Wp.new {uP : Value} {wP : World} {bnd : Nat} {u : Value} {L : List Nat} {w w' : World} (h : Wp uP wP bnd u L w) (hf : Fr no w w') : Wp uP wP bnd u L w' := ⟨h.own.kept hf (fun _ _ f => f), h.sp.then hf (fun _ _ f => f), h.ln⟩
theorem Wp.drew {uP : Value} {wP : World} {bnd : Nat} {u : Value} {L : List Nat} {w : World} (h : Wp uP wP bnd u L w) : Wp uP wP bnd u L w.drew := h.new (Fr.refl no w).drew
theorem Wp.step {uP : Value} {wP : World} {bnd b' : Nat} {u u' : Value} {L L' : List Nat} {w w' : World} (h : Wp uP wP bnd u L w) (o : Own w' u' L') (s : Sp no u w u' w') (hb : L'.length ≤ b') : Wp uP wP b' u' L' w' := ⟨o, h.sp.trans s, hb⟩

theorem wp_text {uP : Value} {wP : World} {bnd : Nat} {u : Value} {L : List Nat} {w : World} {s : ByteArray} (h : Wp uP wP bnd u L w) (hb : bnd ≤ 1000000000000) (hs : s.size ≤ 20) :
    Calls Tryz.prog 83 #[u, .string s] w fun e w' => ∃ a k c, e = .returned (.slice a k c) ∧ Wp uP wP (bnd + 30) (.slice a k c) (L ++ enTx s) w' ∧ Sp no u w (.slice a k c) w' := by
  have hl := h.ln
  refine (ref_text w u L h.own s (by omega)).mono ?_
  rintro e w' ⟨u', rfl, o, sp⟩
  obtain ⟨a, k, c, rfl⟩ := o.form
  exact ⟨a, k, c, rfl, h.step o sp <| by
    have := enTx_len s hs
    have e : (L ++ enTx s).length = L.length + (enTx s).length := List.length_append
    omega, sp⟩

set_option maxRecDepth 100000 in
set_option maxHeartbeats 2000000 in
theorem ref_const (w : World) (u : Value) (l : List Nat) (h : Own w u l) (hb : l.length ≤ 1000000000) (x : Cs) (hv : VCs x) (hf : FitCs x) :
    Calls Tryz.prog 84 #[u, .agg #[.int .i64 x.k, .int .i64 x.n, .complex .f64 x.re x.im, .string x.c, .string x.m]] w fun e w' => ∃ u', e = .returned u' ∧ Own w' u' (l ++ enCs x) ∧ Sp no u w u' w' := by
  obtain ⟨k, xn, re, im, c, m⟩ := x
  obtain ⟨v1, v2, v3, v4, -, -, -, -⟩ := hv
  obtain ⟨g1, g2, g3, g4⟩ := hf
  simp only [] at *
  obtain ⟨n, rfl⟩ : ∃ n : Nat, k = (n : Int) := ⟨k.toNat, by omega⟩
  have hw8 : IntKind.u8.wrap (n : Int) = (n : Int) := u8_small n (by omega)
  have f0 : Fr no w (w.alloc (.cells #[.int .i64 (n : Int), .int .i64 xn, .complex .f64 re im, .string c, .string m] 39)) := (Fr.refl no w).alloc _ _
  have b0 := heap_alloc_new w (.cells #[.int .i64 (n : Int), .int .i64 xn, .complex .f64 re im, .string c, .string m] 39)
  generalize hW0 : w.alloc (.cells #[.int .i64 (n : Int), .int .i64 xn, .complex .f64 re im, .string c, .string m] 39) = W0 at *
  have HB0 : Hid (W0.heap[w.heap.size]? = some (.cells #[.int .i64 (n : Int), .int .i64 xn, .complex .f64 re im, .string c, .string m] 39 (0, 0))) := b0
  obtain ⟨c0, c1, c2, c3, c4⟩ := box5 b0
  have hS := src_one W0 n
  have oA := own_alloc (h.kept f0 (fun _ _ f => f)) #[.int .u8 ((n : Nat) : Int)] 5
  have fA : Fr no w (W0.alloc (.cells #[.int .u8 ((n : Nat) : Int)] 5)) := f0.alloc _ _
  have hbb : l.length + ([n] : List Nat).length ≤ 1099511627776 := by simp; omega
  have HFC : Hid (∀ w5 u5, Sp no u (W0.alloc (.cells #[.int .u8 ((n : Nat) : Int)] 5)) u5 w5 → w5.heap[w.heap.size]? = some (.cells #[.int .i64 (n : Int), .int .i64 xn, .complex .f64 re im, .string c, .string m] 39 (0, 0)) ∧ Sp no u w u5 w5) := fun w5 u5 s5 => by
    have hu : ¬ (u.ownBlock = some w.heap.size) := fun e => by have := h.lt e; omega
    have s6 := Sp.after fA s5 (fun _ _ f => f)
    have hh := s5.1.heap (((Fr.refl no _).alloc _ _).heap b0 (fun f => f)) (fun e => e.elim (fun f => f) (fun e => hu e))
    exact ⟨hh, s6⟩
  have f0A : Hid (Fr no w (W0.alloc (.cells #[.int .u8 ((n : Nat) : Int)] 5))) := fA
  have HLT : Hid (∀ k, u.ownBlock = some k → k < w.heap.size) := fun k e => h.lt e
  clear b0 f0 fA
  obtain ⟨uo, un, uc, rfl⟩ := h.form
  clear h
  have HX : Hid (enCs ⟨(n : Int), xn, re, im, c, m⟩ = n :: (if (n : Int) = 1 then enc (fo xn) else if (n : Int) = 2 then le re 8 ++ le im 8 else if (n : Int) = 3 then enTx c else if (n : Int) = 4 ∨ (n : Int) = 5 then enTx c ++ enTx m else [])) := by show _ = _; unfold enCs; simp
  by_cases hn1 : n = 1
  · have j1 : ((n : Int) == 1) = true := by simp; omega
    have HE : Hid (enCs ⟨(n : Int), xn, re, im, c, m⟩ = [n] ++ (enc (fo xn))) := by show _ = _; rw [HX.out, hn1]; rfl
    clear hn1
    go_enter Tryz.func84, Tryz.ntmps84
    go_wp2_with (at_builtin; refine wpList_apd _ rfl rfl (.tmp 5) (.tmp 9) 22 rfl _ l rfl oA _ rfl [n] hS hbb ?_; intro u5 w5 o5 s5; obtain ⟨hbx, s6⟩ := HFC.out w5 u5 s5; obtain ⟨e0, e1, e2, e3, e4⟩ := box5 hbx; obtain ⟨uo', un', uc', rfl⟩ := o5.form)
    refine (ref_int w5 _ (l ++ [n]) o5 (by simp; omega) xn g1 g2).mono ?_
    rintro e w6 ⟨u6, rfl, o6, s7⟩
    obtain ⟨uo6, un6, uc6, rfl⟩ := o6.form
    go_wp2_with fail
    go_ret
    refine ⟨_, rfl, ?_, s6.trans s7⟩
    rw [HE.out, ← List.append_assoc]
    exact o6
  have j1 : ((n : Int) == 1) = false := by simp; omega
  by_cases hn2 : n = 2
  · have j2 : ((n : Int) == 2) = true := by simp; omega
    have HE : Hid (enCs ⟨(n : Int), xn, re, im, c, m⟩ = [n] ++ (le re 8 ++ le im 8)) := by show _ = _; rw [HX.out, hn2]; rfl
    clear hn2
    go_enter Tryz.func84, Tryz.ntmps84
    go_wp2_with (at_builtin; refine wpList_apd _ rfl rfl (.tmp 5) (.tmp 9) 22 rfl _ l rfl oA _ rfl [n] hS hbb ?_; intro u5 w5 o5 s5; obtain ⟨hbx, s6⟩ := HFC.out w5 u5 s5; obtain ⟨e0, e1, e2, e3, e4⟩ := box5 hbx; obtain ⟨uo', un', uc', rfl⟩ := o5.form)
    refine (ref_cplx w5 _ (l ++ [n]) o5 (by simp; omega) re im g3 g4).mono ?_
    rintro e w6 ⟨u6, rfl, o6, s7⟩
    obtain ⟨uo6, un6, uc6, rfl⟩ := o6.form
    go_wp2_with fail
    go_ret
    refine ⟨_, rfl, ?_, s6.trans s7⟩
    rw [HE.out, ← List.append_assoc]
    exact o6
  have j2 : ((n : Int) == 2) = false := by simp; omega
  by_cases hn3 : n = 3
  · have j3 : ((n : Int) == 3) = true := by simp; omega
    have HE : Hid (enCs ⟨(n : Int), xn, re, im, c, m⟩ = [n] ++ (enc c.size ++ nl c)) := by show _ = _; rw [HX.out, hn3]; rfl
    clear hn3
    go_enter Tryz.func84, Tryz.ntmps84
    go_wp2_with (at_builtin; refine wpList_apd _ rfl rfl (.tmp 5) (.tmp 9) 22 rfl _ l rfl oA _ rfl [n] hS hbb ?_; intro u5 w5 o5 s5; obtain ⟨hbx, s6⟩ := HFC.out w5 u5 s5; obtain ⟨e0, e1, e2, e3, e4⟩ := box5 hbx; obtain ⟨uo', un', uc', rfl⟩ := o5.form)
    refine (ref_text w5 _ (l ++ [n]) o5 c (by simp; omega)).mono ?_
    rintro e w6 ⟨u6, rfl, o6, s7⟩
    obtain ⟨uo6, un6, uc6, rfl⟩ := o6.form
    go_wp2_with fail
    go_ret
    refine ⟨_, rfl, ?_, s6.trans s7⟩
    rw [HE.out, ← List.append_assoc]
    exact o6
  have j3 : ((n : Int) == 3) = false := by simp; omega
  have HE : Hid (enCs ⟨(n : Int), xn, re, im, c, m⟩ = [n] ++ (enTx c ++ enTx m)) := by show _ = _; rw [HX.out, if_neg (by omega), if_neg (by omega), if_neg (by omega), if_pos (by omega)]; rfl
  go_enter Tryz.func84, Tryz.ntmps84
  go_wp2_with (at_builtin; refine wpList_apd _ rfl rfl (.tmp 5) (.tmp 9) 22 rfl _ l rfl oA _ rfl [n] hS hbb ?_; intro u5 w5 o5 s5; obtain ⟨hbx, s6⟩ := HFC.out w5 u5 s5; obtain ⟨e0, e1, e2, e3, e4⟩ := box5 hbx; obtain ⟨uo', un', uc', rfl⟩ := o5.form)
  have hwp : Wp (.slice uo un uc) (W0.alloc (.cells #[.int .u8 ((n : Nat) : Int)] 5)) (l.length + 1) (.slice uo' un' uc') (l ++ [n]) w5 := ⟨o5, s5, by simp⟩
  have KS : Hid (∀ b u2 L2 w2, Wp (.slice uo un uc) (W0.alloc (.cells #[.int .u8 ((n : Nat) : Int)] 5)) b u2 L2 w2 → w2.cell? ⟨w.heap.size, 3, none⟩ = some (.string c) ∧ w2.cell? ⟨w.heap.size, 4, none⟩ = some (.string m)) := fun b u2 L2 w2 h2 => by
    have hu : ¬ (Value.ownBlock (.slice uo un uc) = some w.heap.size) := fun e => by have := HLT.out _ e; omega
    have := box5 (h2.sp.1.heap (((Fr.refl no _).alloc _ _).heap HB0.out (fun f => f)) (fun e => e.elim (fun f => f) (fun e => hu e)))
    exact ⟨this.2.2.2.1, this.2.2.2.2⟩
  clear s5 o5 hbx
  go_wp2_with fail
  go_region_held3 (fun w2 => w2.cell? ⟨w.heap.size, 3, none⟩ = some (.string c) ∧ w2.cell? ⟨w.heap.size, 4, none⟩ = some (.string m)) (first | exact KS.out _ _ _ _ hwp | exact KS.out _ _ _ _ hwp.drew)
    (first | (go_at_call_of 83 un'; refine (wp_text hwp.drew (by omega) (by omega)).mono ?_; rintro e w6 ⟨a6, k6, c6, rfl, hwp, -⟩) | (go_at_call 83; refine (wp_text hwp (by omega) (by omega)).mono ?_; rintro e w6 ⟨a6, k6, c6, rfl, hwp, -⟩))
  go_wp2_with fail
  go_ret
  refine ⟨_, rfl, ?_, Sp.after f0A.out hwp.sp (fun _ _ f => f)⟩
  rw [HE.out]
  have := hwp.own
  simpa [List.append_assoc] using this

theorem wp_num {uP : Value} {wP : World} {bnd : Nat} {u : Value} {L : List Nat} {w : World} {n : Nat} (h : Wp uP wP bnd u L w) (hb : bnd ≤ 1000000000000) (hn : n < 2 ^ 62) :
    Calls Tryz.prog 82 #[u, .int .i64 (n : Int)] w fun e w' => ∃ a k c, e = .returned (.slice a k c) ∧ Wp uP wP (bnd + 10) (.slice a k c) (L ++ enc n) w' ∧ Sp no u w (.slice a k c) w' := by
  have hl := h.ln
  refine (ref_num w u L h.own (by omega) n hn).mono ?_
  rintro e w' ⟨u', rfl, o, sp⟩
  obtain ⟨a, k, c, rfl⟩ := o.form
  exact ⟨a, k, c, rfl, h.step o sp (by have := enc_length n; rw [List.length_append]; omega), sp⟩

theorem wp_typ {uP : Value} {wP : World} {bnd : Nat} {u : Value} {L : List Nat} {w : World} {t : Ty} (h : Wp uP wP bnd u L w) (hb : bnd ≤ 1000000000000) (ht : VTy t) :
    Calls Tryz.prog 85 #[u, .agg #[.int .i64 t.k, .string t.c]] w fun e w' => ∃ a k c, e = .returned (.slice a k c) ∧ Wp uP wP (bnd + 31) (.slice a k c) (L ++ enTy t) w' ∧ Sp no u w (.slice a k c) w' := by
  have hl := h.ln
  refine (ref_typ w u L h.own (by omega) t ht).mono ?_
  rintro e w' ⟨u', rfl, o, sp⟩
  obtain ⟨a, k, c, rfl⟩ := o.form
  exact ⟨a, k, c, rfl, h.step o sp (by have := enTy_len t ht; rw [List.length_append]; omega), sp⟩

theorem wp_const {uP : Value} {wP : World} {bnd : Nat} {u : Value} {L : List Nat} {w : World} {x : Cs} (h : Wp uP wP bnd u L w) (hb : bnd ≤ 1000000000) (hv : VCs x) (hf : FitCs x) :
    Calls Tryz.prog 84 #[u, .agg #[.int .i64 x.k, .int .i64 x.n, .complex .f64 x.re x.im, .string x.c, .string x.m]] w fun e w' => ∃ a k c, e = .returned (.slice a k c) ∧ Wp uP wP (bnd + 61) (.slice a k c) (L ++ enCs x) w' ∧ Sp no u w (.slice a k c) w' := by
  have hl := h.ln
  refine (ref_const w u L h.own (by omega) x hv hf).mono ?_
  rintro e w' ⟨u', rfl, o, sp⟩
  obtain ⟨a, k, c, rfl⟩ := o.form
  exact ⟨a, k, c, rfl, h.step o sp (by have := enCs_len x hv; rw [List.length_append]; omega), sp⟩
end Go.Proofs.YthncdbobjeeeaaaGreatDoor

/- What is written so far of a class: without memory; and the writer beside other memory. -/
namespace Go.Proofs.YthncdbobjeeeaaaGreatDoor
open Go.ChangeShapes Go.WideShapes Go.ChangeAt Go.RowKit

def eP0 (c : Cl) : List Nat := (([76, 79, 79, 77, 1] ++ enTx c.name) ++ enTx c.super) ++ enc c.pool.length
def eP1 (c : Cl) (j : Nat) : List Nat := eP0 c ++ (c.pool.take j).flatMap enCs
def eP2 (c : Cl) (j : Nat) : List Nat := (eP1 c c.pool.length ++ enc c.fields.length) ++ (c.fields.take j).flatMap enFd
def eP3 (c : Cl) (j : Nat) : List Nat := (eP2 c c.fields.length ++ enc c.methods.length) ++ (c.methods.take j).flatMap enMt
def eM1 (B : List Nat) (m : Mt) (j : Nat) : List Nat := ((B ++ enTx m.name) ++ enc m.params.length) ++ (m.params.take j).flatMap enTy
def eM2 (B : List Nat) (m : Mt) (j : Nat) : List Nat := ((((((eM1 B m m.params.length ++ enTy m.ret) ++ enc m.lo.toNat) ++ enc m.st.toNat) ++ enc (ptB m.code).length) ++ ptB m.code) ++ enc m.hands.length) ++ (m.hands.take j).flatMap enHd

theorem flat_next {α : Type} (f : α → List Nat) (l : List α) (j : Nat) (x : α) (h : l[j]? = some x) : (l.take (j + 1)).flatMap f = (l.take j).flatMap f ++ f x := by
  rw [take_next l j x h, List.flatMap_append]
  simp
theorem eP1_next (c : Cl) (j : Nat) (x : Cs) (h : c.pool[j]? = some x) : eP1 c (j + 1) = eP1 c j ++ enCs x := by unfold eP1; rw [flat_next enCs _ j x h, List.append_assoc]
theorem eP2_next (c : Cl) (j : Nat) (x : Fd) (h : c.fields[j]? = some x) : eP2 c (j + 1) = ((eP2 c j ++ enTx x.name) ++ enTy x.ty) ++ [if x.vol = true then 1 else 0] := by
  unfold eP2
  rw [flat_next enFd _ j x h]
  unfold enFd
  simp only [List.append_assoc]
theorem eP3_next (c : Cl) (j : Nat) (m : Mt) (h : c.methods[j]? = some m) : eP3 c (j + 1) = eP3 c j ++ enMt m := by unfold eP3; rw [flat_next enMt _ j m h]; simp only [List.append_assoc]
theorem eP3_end (c : Cl) : eP3 c c.methods.length = enCl c := by
  unfold eP3 eP2 eP1 eP0 enCl enL
  simp only [List.take_length, List.append_assoc]
theorem eM1_next (B : List Nat) (m : Mt) (j : Nat) (t : Ty) (h : m.params[j]? = some t) : eM1 B m (j + 1) = eM1 B m j ++ enTy t := by unfold eM1; rw [flat_next enTy _ j t h]; simp only [List.append_assoc]
theorem eM2_next (B : List Nat) (m : Mt) (j : Nat) (x : Hd) (h : m.hands[j]? = some x) : eM2 B m (j + 1) = ((((eM2 B m j ++ enc x.fr.toNat) ++ enc x.to.toNat) ++ enc x.tg.toNat) ++ enc (x.cl + 1).toNat) ++ enc x.dp.toNat := by
  unfold eM2
  rw [flat_next enHd _ j x h]
  unfold enHd
  simp only [List.append_assoc]
theorem eM2_end (B : List Nat) (m : Mt) : eM2 B m m.hands.length = B ++ enMt m := by
  unfold eM2 eM1 enMt enL
  simp only [List.take_length, List.append_assoc]

theorem fl_take {α : Type} (f : α → List Nat) (l : List α) (j n k : Nat) (h : ∀ x ∈ l, (f x).length ≤ n) (hl : l.length ≤ k) : ((l.take j).flatMap f).length ≤ k * n := by
  refine Nat.le_trans (flat_len f (l.take j) n (fun x hx => h x (List.mem_of_mem_take hx))) (Nat.mul_le_mul_right _ ?_)
  rw [List.length_take]
  omega
theorem eP1_len (c : Cl) (V : VCl c) (j : Nat) : (eP1 c j).length ≤ 7900 := by
  have h1 := enTx_len c.name V.name
  have h2 := enTx_len c.super V.super
  have h3 := enc_length c.pool.length
  have h4 := fl_take enCs c.pool j 61 128 (fun x hx => enCs_len x (V.pool x hx)) V.pl
  unfold eP1 eP0
  simp only [List.length_append, List.length_cons, List.length_nil]
  omega
theorem eP2_len (c : Cl) (V : VCl c) (j : Nat) : (eP2 c j).length ≤ 8500 := by
  have h1 := eP1_len c V c.pool.length
  have h3 := enc_length c.fields.length
  have h4 := fl_take enFd c.fields j 62 8 (fun x hx => enFd_len x (V.fields x hx)) V.fl
  unfold eP2
  simp only [List.length_append]
  omega
theorem eP3_len (c : Cl) (V : VCl c) (j : Nat) : (eP3 c j).length ≤ 60000 := by
  have h1 := eP2_len c V c.fields.length
  have h3 := enc_length c.methods.length
  have h4 := fl_take enMt c.methods j 3400 12 (fun x hx => enMt_len x (V.methods x hx)) V.ml
  unfold eP3
  simp only [List.length_append]
  omega
theorem eM1_len (B : List Nat) (m : Mt) (hB : B.length ≤ 60000) (V : VMt m) (j : Nat) : (eM1 B m j).length ≤ 61000 := by
  have h1 := enTx_len m.name V.name
  have h3 := enc_length m.params.length
  have h4 := fl_take enTy m.params j 31 6 (fun x hx => enTy_len x (V.params x hx)) V.pl
  unfold eM1
  simp only [List.length_append]
  omega
theorem eM2_len (B : List Nat) (m : Mt) (hB : B.length ≤ 60000) (V : VMt m) (j : Nat) : (eM2 B m j).length ≤ 66000 := by
  have h1 := eM1_len B m hB V m.params.length
  have h2 := enTy_len m.ret V.ret
  have h3 := enc_length m.lo.toNat
  have h5 := enc_length m.st.toNat
  have h6 := enc_length (ptB m.code).length
  have h7 := ptB_len m.code V.cl
  have h8 := enc_length m.hands.length
  have h4 := fl_take enHd m.hands j 50 16 (fun x hx => enHd_len x) V.hl
  unfold eM2
  simp only [List.length_append]
  omega

/-! ### The writer beside other memory -/
theorem Wp.tight {uP : Value} {wP : World} {bnd b' : Nat} {u : Value} {L : List Nat} {w : World} (h : Wp uP wP bnd u L w) (hb : L.length ≤ b') : Wp uP wP b' u L w := ⟨h.own, h.sp, hb⟩
/-- From a nearer place on. -/
theorem Wp.near {bnd : Nat} {u : Value} {L : List Nat} {w : World} {uP : Value} {wP : World} (h : Wp uP wP bnd u L w) : Wp u w bnd u L w := ⟨h.own, Sp.refl _ _ _, h.ln⟩
theorem Wp.far {bnd b' : Nat} {u u' : Value} {L L' : List Nat} {w w' : World} {uP : Value} {wP : World} (h : Wp uP wP bnd u L w) (h' : Wp u w b' u' L' w') : Wp uP wP b' u' L' w' := ⟨h'.own, h.sp.trans h'.sp, h'.ln⟩
theorem Wp.heap {uP : Value} {wP : World} {bnd : Nat} {u : Value} {L : List Nat} {w : World} (h : Wp uP wP bnd u L w) {A : Nat} {o : Obj} (hA : wP.heap[A]? = some o) (hu : uP.ownBlock ≠ some A) : w.heap[A]? = some o :=
  h.sp.1.heap hA (fun e => e.elim (fun f => f) (fun e => hu e))
/-- A block that is made is beside the writer's row. -/
theorem Wp.made {uP : Value} {wP : World} {bnd : Nat} {u : Value} {L : List Nat} {w : World} (h : Wp uP wP bnd u L w) : u.ownBlock ≠ some w.heap.size := fun e => by have := h.own.lt e; omega
theorem Wp.fr {W : World} {bnd : Nat} {u : Value} {L : List Nat} {w : World} (h : Wp nv W bnd u L w) : Fr no W w := h.sp.fresh.1

/-- Another row of bytes, beside the writer's. -/
structure Wx (u x : Value) (X : List Nat) (w : World) : Prop where
  own : Own w x X
  dj : ∀ k, x.ownBlock = some k → u.ownBlock ≠ some k
theorem Wx.step {u u' x : Value} {X : List Nat} {w w' : World} (h : Wx u x X w) (s : Sp no u w u' w') : Wx u' x X w' :=
  ⟨h.own.kept s.1 (fun k hk e => e.elim (fun f => f) (fun e => h.dj k hk e)), fun k hk e => h.dj k hk (s.2 k (h.own.lt hk) e)⟩
theorem Wx.new {u x : Value} {X : List Nat} {w w' : World} (h : Wx u x X w) (hf : Fr no w w') : Wx u x X w' := ⟨h.own.kept hf (fun _ _ f => f), h.dj⟩

theorem step_apd (w : World) {ops : Array Oper} {o : Oper} {a : Act} {K2 : Act → World → Prop} {Q : Exit → Act → World → Prop} {E : Prop}
    (hg : o.guard = none) (ht : o.type = 22) (s x : Operand) (hop : o.op = Op.call { callee := Callee.builtin Builtin.append, args := #[s, x], argTypes := #[22, 22] })
    (v : Value) (l : List Nat) (hs : a.eval s = v) (hown : Own w v l) (xv : Value) (hx : a.eval x = xv) (m : List Nat) (hsrc : Src Tryz.prog 1 22 xv m.length (cl m) w)
    (hb : l.length + m.length ≤ 1099511627776)
    (hK' : ∀ v' w', Own w' v' (l ++ m) → Sp no v w v' w' → K2 (a.put o.dst v') w') :
    if Region.wanted o (yielded ops a.tmps) = true then Oper.wp Tryz.prog o a w K2 Q else E := by
  have hw : Region.wanted o (yielded ops a.tmps) = true := by simp [Region.wanted, hg]
  rw [if_pos hw]
  obtain ⟨v', w', hrun, r1, r2⟩ := run_apd w v l hown 22 xv m hsrc hb
  unfold Oper.wp
  simp [execOp, hop, ht, resolve, invoke, builtin, hs, hx, hrun, Result.andThen]
  exact hK' v' w' r1 r2

theorem own_mark (w : World) : Own (w.alloc (.cells #[.int .u8 76, .int .u8 79, .int .u8 79, .int .u8 77, .int .u8 1] 5)) (.slice (some ⟨w.heap.size, 0, none⟩) 5 5) [76, 79, 79, 77, 1] :=
  ⟨by simp [cl], .inr ⟨w.heap.size, 5, _, rfl, Nat.zero_le _, heap_alloc_new w _, by simp, by unfold maxLen; omega, by simp, by simp [cl]⟩⟩
end Go.Proofs.YthncdbobjeeeaaaGreatDoor

