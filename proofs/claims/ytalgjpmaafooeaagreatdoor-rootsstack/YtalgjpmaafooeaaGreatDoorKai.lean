/- The program of classes, whether they fit together or not. -/
import Derived.Test.YtalgjpmaafooeaaGreatDoorKah
import Derived.Test.YtalgjpmaafooeaaGreatDoorKad
import Derived.BigRegion
namespace Go.Proofs.YtalgjpmaafooeaaGreatDoor
open Go.ChangeShapes Go.WideShapes Go.ChangeAt Go.RowKit
open H (ky Owns MapOf ix up nameAt anc Fine obj fault)
structure CsAt (w : World) (v : Value) (cs : List Cl) : Prop where
 ex : ∃ ks, SlG elKs w v ks ∧ ks.length = cs.length ∧ ∀ (i : Nat) (s : Ks) (c : Cl), ks[i]? = some s → cs[i]? = some c → ClAt w s c
theorem CsAt.kept {w w' : World} {v : Value} {cs : List Cl} (h : CsAt w v cs) (hf : Fr no w w') : CsAt w' v cs := by
 obtain ⟨ks, h1, h2, h3⟩ := h.ex
 exact ⟨ks, h1.kept hf, h2, fun i s c hs hc => (h3 i s c hs hc).kept hf⟩
def half (Cs : List Cl) (A : List Nat) (k : Nat) : List Li := (List.range Cs.length).map fun j => if j < k then lay Cs A j else li0 (clsAt Cs j)
theorem half_get {Cs : List Cl} {A : List Nat} {k j : Nat} (hj : j < Cs.length) : (half Cs A k)[j]? = some (if j < k then lay Cs A j else li0 (clsAt Cs j)) := by
 unfold half
 rw [List.getElem?_map, List.getElem?_range hj]
 rfl
theorem lay_cls (Cs : List Cl) (A : List Nat) (i : Nat) : (lay Cs A i).c = clsAt Cs i := by unfold lay; rw [layN_cls]; rfl
theorem half_cls (Cs : List Cl) (A : List Nat) (k : Nat) : (half Cs A k).map (·.c) = Cs := by
 apply List.ext_getElem?
 intro j
 rw [List.getElem?_map]
 by_cases hj : j < Cs.length
 · rw [half_get hj, Option.map_some, List.getElem?_eq_getElem hj]
   have : clsAt Cs j = Cs[j] := by unfold clsAt; rw [List.getD_eq_getElem?_getD, List.getElem?_eq_getElem hj]; rfl
   split
   · rw [lay_cls, this]
   · rw [← this]; rfl
 · rw [List.getElem?_eq_none (by simp [half]; omega), List.getElem?_eq_none (by omega)]
   rfl
theorem half_names (Cs : List Cl) (A : List Nat) (k : Nat) : namesY (half Cs A k) = namesOf Cs := by
 unfold namesY namesOf
 rw [← half_cls Cs A k, List.map_map]
 rw [half_cls]
 rfl
theorem half_len (Cs : List Cl) (A : List Nat) (k : Nat) : (half Cs A k).length = Cs.length := by simp [half]
theorem half_zero (Cs : List Cl) (A : List Nat) : half Cs A 0 = Cs.map li0 := by
 apply List.ext_getElem?
 intro j
 rw [List.getElem?_map]
 by_cases hj : j < Cs.length
 · rw [half_get hj, List.getElem?_eq_getElem hj, if_neg (by omega)]
   unfold clsAt
   rw [List.getD_eq_getElem?_getD, List.getElem?_eq_getElem hj]
   rfl
 · rw [List.getElem?_eq_none (by simp [half]; omega), List.getElem?_eq_none (by omega)]
   rfl
theorem half_all (Cs : List Cl) (A : List Nat) : half Cs A Cs.length = layAll Cs A := by
 unfold half layAll
 apply List.map_congr_left
 intro j hj
 rw [if_pos (List.mem_range.1 hj)]
theorem half_next (Cs : List Cl) (A : List Nat) (k : Nat) (hk : k < Cs.length) : (half Cs A k).set k (lay Cs A k) = half Cs A (k + 1) := by
 apply List.ext_getElem?
 intro j
 by_cases hjk : k = j
 · subst hjk
   rw [List.getElem?_set_self (by rw [half_len]; exact hk), half_get hk, if_pos (by omega)]
 · rw [List.getElem?_set_ne hjk]
   by_cases hj : j < Cs.length
   · rw [half_get hj, half_get hj]
     by_cases h1 : j < k
     · rw [if_pos h1, if_pos (by omega)]
     · rw [if_neg h1, if_neg (by omega)]
   · rw [List.getElem?_eq_none (by rw [half_len]; omega), List.getElem?_eq_none (by rw [half_len]; omega)]
structure Fits (cs : List Cl) : Prop where
 fit : ∀ c ∈ cs, FitC c
 small : ∀ c ∈ cs, SmallC c
 few : cs.length ≤ 16
 nd : (namesOf (allC cs)).Nodup
theorem fitS_lit {a : Array UInt8} (h : a.size ≤ 1000) : fitS ⟨a⟩ := by show a.size ≤ 1099511627776; omega
theorem fit_obj : FitC objC := ⟨fitS_lit (by decide), fitS_lit (by decide), fun x hx => by simp [objC] at hx, fun x hx => by simp [objC] at hx, fun x hx => by simp [objC] at hx⟩
theorem fit_fault : FitC faultC := by
 refine ⟨fitS_lit (by decide), fitS_lit (by decide), fun x hx => by simp [faultC] at hx, fun x hx => ?_, fun x hx => by simp [faultC] at hx⟩
 simp only [faultC, List.mem_singleton] at hx
 subst hx
 exact ⟨fitS_lit (by decide), fitS_lit (by decide)⟩
theorem good_of {cs : List Cl} (h : Fits cs) {Y : List Li} (hY : Y.map (·.c) = allC cs) : Good Y := by
 have key : ∀ y ∈ Y, y.c = objC ∨ y.c = faultC ∨ y.c ∈ cs := fun y hy => by
  have : y.c ∈ allC cs := by rw [← hY]; exact List.mem_map_of_mem hy
  simpa [allC] using this
 refine ⟨fun y hy => ?_, fun y hy => ?_, fun y hy => ?_⟩
 · rcases key y hy with e | e | e
   · rw [e]; exact fit_obj
   · rw [e]; exact fit_fault
   · exact h.fit _ e
 · rcases key y hy with e | e | e
   · rw [e]; decide
   · rw [e]; decide
   · exact (h.small _ e).f
 · rcases key y hy with e | e | e
   · rw [e]; decide
   · rw [e]; decide
   · exact (h.small _ e).m
end Go.Proofs.YtalgjpmaafooeaaGreatDoor
/- A linked program, read: where a method stands; the slot of a field. -/
namespace Go.Proofs.YtalgjpmaafooeaaGreatDoor
open Go.ChangeShapes Go.WideShapes Go.ChangeAt Go.RowKit
open H (ky Owns MapOf ix up nameAt anc Fine obj fault)
structure Prg (w : World) (p : Nat) (Cs : List Cl) (A : List Nat) : Prop where
 ex : ∃ w0 hp m v X ch, PB w0 w p hp m v X (layAll Cs A) ∧ H.HB ch w hp (namesOf Cs) A
 fine : Fine Cs.length A
 nd : (namesOf Cs).Nodup
 few : Cs.length ≤ 18
 good : Good (layAll Cs A)
theorem Prg.keep {w w' : World} {p : Nat} {Cs : List Cl} {A : List Nat} (h : Prg w p Cs A) (hf : Fr no w w') : Prg w' p Cs A := by
 obtain ⟨w0, hp, m, v, X, ch, h1, h2⟩ := h.ex
 exact ⟨⟨w0, hp, m, v, X, ch, h1.keep hf, h2.keep hf⟩, h.fine, h.nd, h.few, h.good⟩
theorem layAll_get {Cs : List Cl} {A : List Nat} {i : Nat} (hi : i < Cs.length) : (layAll Cs A)[i]? = some (lay Cs A i) := by
 unfold layAll
 rw [List.getElem?_map, List.getElem?_range hi]
 rfl
theorem layAll_len (Cs : List Cl) (A : List Nat) : (layAll Cs A).length = Cs.length := by simp [layAll]
theorem layAll_cls (Cs : List Cl) (A : List Nat) : (layAll Cs A).map (·.c) = Cs := by rw [← half_all, half_cls]
theorem layAll_names (Cs : List Cl) (A : List Nat) : namesY (layAll Cs A) = namesOf Cs := by rw [← half_all, half_names]
theorem results_25 (w : World) (r : Nat) (x0 x1 y : Value) (h : w.heap[r]? = some (.cells #[x0, x1] 136 (0, 0))) (tmps : Array Value) (h2 : tmps.getD 6 undef = .pointer (some ⟨r, 0, none⟩)) (h3 : tmps.getD 7 undef = y) :
 (results Tryz.f57 tmps).run Tryz.prog w = .ok (.tuple #[.agg #[x0, x1], y]) w := by
 have hl : (loadVar 136 ⟨r, 0, none⟩).run Tryz.prog w = .ok (.agg #[x0, x1]) w := run_loadVar_row (P := Tryz.prog) w r 136 136 #[x0, x1] (0, 0) _ h Tryz.underlying136 rfl (by kernel_rfl)
 have h2' : tmps[6]?.getD undef = .pointer (some ⟨r, 0, none⟩) := by simpa using h2
 have h3' : tmps[7]?.getD undef = y := by simpa using h3
 simp [results, asAddr, h2', h3', hl]
set_option maxRecDepth 100000 in
set_option maxHeartbeats 2000000 in
theorem find_any (w : World) (p : Nat) (Cs : List Cl) (A : List Nat) (h : Prg w p Cs A) (cl s : ByteArray) (hcl : cl.size ≤ 1099511627776) (hs : s.size ≤ 1099511627776) :
 Calls Tryz.prog 57 #[.pointer (some ⟨p, 0, none⟩), .string cl, .string s] w fun e w' => ∃ a b : Int, e = .returned (.tuple #[.agg #[.int .i64 a, .int .i64 b], .bool (findOf (namesOf Cs) (layAll Cs A) cl s).isSome]) ∧ (∀ q, findOf (namesOf Cs) (layAll Cs A) cl s = some q → a = (q.1 : Int) ∧ b = (q.2 : Int)) ∧ Fr no w w' := by
 obtain ⟨w0, hp, m, v, X, ch, P, -⟩ := h.ex
 have G0 : Fr no w (w.alloc (.cells #[.int .i64 0, .int .i64 0] 136)) := (Fr.refl no w).alloc _ _
 have E0 : (w.alloc (.cells #[.int .i64 0, .int .i64 0] 136)).heap[w.heap.size]? = some (.cells #[.int .i64 0, .int .i64 0] 136 (0, 0)) := heap_alloc_new w _
 have P0 := P.keep G0
 obtain ⟨c, hl, -, hc⟩ := P0.look cl hcl
 rw [layAll_names] at hl hc
 obtain ⟨qv, cv, rfl⟩ := P.form
 rw [layAll_len] at P0 P
 obtain ⟨-, b1, b2⟩ := cells3 P0.pb
 have HE : Hid (_ ∧ _) := ⟨E0, G0⟩
 have z0 := cell_at (o := 0) E0
 have z1 := cell_at (o := 1) E0
 have fz := fun o => frozen_at (o := o) E0
 simp only [List.getElem?_toArray, List.getElem?_cons_zero, List.getElem?_cons_succ] at z0 z1
 cases hi : ix cl (namesOf Cs) with
 | none =>
  have HN : Hid (findOf (namesOf Cs) (layAll Cs A) cl s = none) := by show _ = _; unfold findOf; rw [hi]
  rw [hi] at hl
  simp only [Option.isSome_none] at hl
  clear P P0 hc hi h
  have HC : Hid (_) := chain2 HE.out.1 (.int .i64 0) (.int .i64 0)
  have HFC : Hid (_) := frc2 (w.alloc (.cells #[.int .i64 0, .int .i64 0] 136)) w.heap.size (.int .i64 0) (.int .i64 0)
  generalize hW : w.alloc (.cells #[.int .i64 0, .int .i64 0] 136) = W at *
  go_enter Tryz.func57, Tryz.ntmps57
  go_wp2_with fail
  generalize hV : (W.setCell ⟨w.heap.size, 0, none⟩ (.int .i64 0)).setCell ⟨w.heap.size, 1, none⟩ (.int .i64 0) = V at *
  refine bodyPost_ret (results_25 V w.heap.size (.int .i64 0) (.int .i64 0) (.bool false) HC.out _ rfl rfl) rfl ?_
  rw [HN.out]
  exact ⟨0, 0, rfl, fun q hq => by simp at hq, HE.out.2.new HFC.out (fun i hi e => by omega)⟩
 | some i =>
  have hil : i < Cs.length := by have := H.ix_lt hi; simpa [namesOf] using this
  obtain ⟨x, y, hx, hy, L⟩ := P0.get (i := i) (by rw [layAll_len]; exact hil)
  obtain rfl := hc i hi
  obtain ⟨D, q1, q2⟩ := L.m
  obtain ⟨a, b, hl2, -, hab⟩ := lookP q1 q2 s hs
  have HN : Hid (findOf (namesOf Cs) (layAll Cs A) cl s = y.mm s) := by show _ = _; unfold findOf; rw [hi]; simp only [hy]
  rw [hi] at hl
  simp only [Option.isSome_some] at hl
  obtain ⟨g, rfl⟩ := P0.row.some_of (fun e => by rw [e] at hx; simp at hx)
  have d8 := P0.row.cell okLk hx (j := 8) (u := .map (some x.mm)) rfl
  simp only [elLk] at d8
  have hii : (i : Int) < (Cs.length : Int) := by omega
  have HAB : Hid (∀ q, y.mm s = some q → a = (q.1 : Int) ∧ b = (q.2 : Int)) := hab
  clear P P0 hc hi h L q1 q2 hab hy hx hil
  have G2 : Fr no (w.alloc (.cells #[.int .i64 0, .int .i64 0] 136)) ((w.alloc (.cells #[.int .i64 0, .int .i64 0] 136)).alloc (.cells #[.int .i64 a, .int .i64 b] 136)) := (Fr.refl no _).alloc _ _
  have E2 := G2.heap HE.out.1 (fun f => f)
  have B2 : ((w.alloc (.cells #[.int .i64 0, .int .i64 0] 136)).alloc (.cells #[.int .i64 a, .int .i64 b] 136)).heap[(w.alloc (.cells #[.int .i64 0, .int .i64 0] 136)).heap.size]? = some (.cells #[.int .i64 a, .int .i64 b] 136 (0, 0)) := heap_alloc_new _ _
  have y0 := cell_at (o := 0) E2
  have y1 := cell_at (o := 1) E2
  have fz2 := fun o => frozen_at (o := o) E2
  have x0 := cell_at (o := 0) B2
  have x1 := cell_at (o := 1) B2
  simp only [List.getElem?_toArray, List.getElem?_cons_zero, List.getElem?_cons_succ] at y0 y1 x0 x1
  have HC : Hid (_) := chain2 E2 (.int .i64 a) (.int .i64 b)
  have HFC : Hid (_) := frc2 ((w.alloc (.cells #[.int .i64 0, .int .i64 0] 136)).alloc (.cells #[.int .i64 a, .int .i64 b] 136)) w.heap.size (.int .i64 a) (.int .i64 b)
  have HG2 : Hid (_) := G2
  have sz : (w.alloc (.cells #[.int .i64 0, .int .i64 0] 136)).heap.size = w.heap.size + 1 := by simp
  rw [sz] at x0 x1
  clear G2 E2 B2
  generalize hW : w.alloc (.cells #[.int .i64 0, .int .i64 0] 136) = W at *
  generalize hW2 : W.alloc (.cells #[.int .i64 a, .int .i64 b] 136) = W2 at *
  generalize hcl2 : Cs.length = n at *
  generalize hys : (y.mm s).isSome = there at *
  go_enter Tryz.func57, Tryz.ntmps57
  go_wp2_with fail
  generalize hV : (W2.setCell ⟨w.heap.size, 0, none⟩ (.int .i64 a)).setCell ⟨w.heap.size, 1, none⟩ (.int .i64 b) = V at *
  refine bodyPost_ret (results_25 V w.heap.size (.int .i64 a) (.int .i64 b) (.bool there) HC.out _ rfl rfl) rfl ?_
  rw [HN.out, hys]
  exact ⟨a, b, rfl, HAB.out, (HE.out.2.new HG2.out (fun _ _ f => f)).new HFC.out (fun i hi e => by omega)⟩
end Go.Proofs.YtalgjpmaafooeaaGreatDoor
/- Whether a list has one of which that is so: the library's search with the program's own questions. -/
namespace Go.Proofs.YtalgjpmaafooeaaGreatDoor
open Go.ChangeShapes Go.WideShapes Go.ChangeAt Go.RowKit
def anyN (g : Nat → Bool) (n : Nat) : Bool := (List.range n).any g
theorem anyN_succ (g : Nat → Bool) (n : Nat) : anyN g (n + 1) = (anyN g n || g n) := by unfold anyN; rw [List.range_succ, List.any_append]; simp
theorem anyN_true {g : Nat → Bool} {k n : Nat} (hk : k < n) (h : g k = true) : anyN g n = true := List.any_eq_true.2 ⟨k, List.mem_range.2 hk, h⟩
theorem anyN_list {α : Type} (f : α → Bool) (l : List α) (g : Nat → Bool) (h : ∀ i x, l[i]? = some x → g i = f x) : anyN g l.length = l.any f := by
 unfold anyN
 rw [Bool.eq_iff_iff, List.any_eq_true, List.any_eq_true]
 constructor
 · rintro ⟨i, hi, hg⟩
   have hl := List.mem_range.1 hi
   exact ⟨l[i], List.getElem_mem hl, by rw [← h i _ (List.getElem?_eq_getElem hl)]; exact hg⟩
 · rintro ⟨x, hx, hf⟩
   obtain ⟨i, hi⟩ := List.mem_iff_getElem?.1 hx
   exact ⟨i, List.mem_range.2 (List.getElem?_eq_some_iff.1 hi).1, by rw [h i x hi]; exact hf⟩
set_option maxRecDepth 100000 in
set_option maxHeartbeats 1000000 in
theorem askTy_any (w : World) (v : Value) (l : List Ty) (h : SlG elTy w v l) (q : Nat) (g : Nat → Bool) (ASK : ∀ (wr : World) (k : Nat) (x : Ty), Fr no w wr → l[k]? = some x → Calls Tryz.prog 108 #[.pointer (some ⟨q, 0, none⟩), .agg #[.int .i64 x.k, .string x.c]] wr fun e w' => e = .returned (.bool (g k)) ∧ Fr no wr w') :
 Calls Tryz.prog 125 #[v, .func (.func 108) #[.pointer (some ⟨q, 0, none⟩)] #[]] w fun e w' => ∃ z : Int, e = .returned (.int .i64 z) ∧ decide (0 ≤ z) = anyN g l.length ∧ Fr no w w' := by
 obtain ⟨ad, cp, rfl, hcap, hmx, hit⟩ := h
 unfold maxLen at hmx
 have HI : Hid (∀ (i : Nat) (x : Ty), l[i]? = some x → ∃ b off, ad = some ⟨b, off, none⟩ ∧ ∀ (j : Nat) (u : Value), (elTy.f x)[j]? = some u → w.cell? ⟨b, off + i * 2 + j, none⟩ = some u) := hit
 have HASK : Hid (_) := ASK
 clear hit ASK
 go_enter Tryz.func125, Tryz.ntmps125
 go_wp2_with fail
 go_loopw [8] (fun i wr => ∃ (k : Nat), i = .int .i64 (k : Int) ∧ k ≤ l.length ∧ Fr no w wr ∧ anyN g k = false) (fun i _ => l.length - (intOf i).toNat)
 case atStart => exact ⟨0, rfl, by omega, Fr.refl _ _, rfl⟩
 case round =>
  obtain ⟨k, rfl, hk, hw, hall⟩ := hrel
  have HA : Hid (anyN g k = false) := hall
  clear hall
  by_cases hlt : k < l.length
  · obtain ⟨x, hx⟩ : ∃ x, l[k]? = some x := ⟨_, List.getElem?_eq_getElem hlt⟩
    obtain ⟨b, off, rfl, hc⟩ := HI.out k x hx
    have hlt' : (k : Int) < (l.length : Int) := by omega
    have c0 : wr.cell? ⟨b, off + k * 2, none⟩ = some (.int .i64 x.k) := hw.cell (hc 0 _ rfl) (fun f => f)
    have c1 : wr.cell? ⟨b, off + k * 2 + 1, none⟩ = some (.string x.c) := hw.cell (hc 1 _ rfl) (fun f => f)
    have E := HASK.out wr k x hw hx
    have HW : Hid (Fr no w wr) := hw
    clear hc hw hx
    by_cases hn : g k = true
    · rw [hn] at E
      have HT : Hid (anyN g l.length = true) := anyN_true hlt hn
      clear hn
      go_wp2_with fail
      refine E.mono ?_
      rintro e w2 ⟨rfl, f2⟩
      go_wp2_with fail
      go_ret
      refine ⟨_, rfl, ?_, HW.out.new f2 (fun _ _ f => f)⟩
      rw [HT.out]
      simp
    · have hn' : g k = false := by simpa using hn
      rw [hn'] at E
      have HT : Hid (anyN g (k + 1) = false) := by show _ = _; rw [anyN_succ, HA.out, hn']; rfl
      clear hn hn'
      go_wp2_with fail
      refine E.mono ?_
      rintro e w2 ⟨rfl, f2⟩
      go_wp2_with fail
      go_roundw
      case rel => exact ⟨k + 1, by go_num, by omega, HW.out.new f2 (fun _ _ f => f), HT.out⟩
      case measure => simp [intOf]; omega
  · have hkl : k = l.length := by omega
    subst hkl
    go_wp2_with fail
    go_ret
    refine ⟨_, rfl, ?_, hw⟩
    rw [HA.out]
    rfl
theorem hasTy_any (w : World) (v : Value) (l : List Ty) (h : SlG elTy w v l) (q : Nat) (g : Nat → Bool) (ASK : ∀ (wr : World) (k : Nat) (x : Ty), Fr no w wr → l[k]? = some x → Calls Tryz.prog 108 #[.pointer (some ⟨q, 0, none⟩), .agg #[.int .i64 x.k, .string x.c]] wr fun e w' => e = .returned (.bool (g k)) ∧ Fr no wr w') :
 Calls Tryz.prog 109 #[v, .func (.func 108) #[.pointer (some ⟨q, 0, none⟩)] #[]] w fun e w' => e = .returned (.bool (anyN g l.length)) ∧ Fr no w w' := by
 have I := askTy_any w v l h q g ASK
 clear ASK h
 go_enter Tryz.func109, Tryz.ntmps109
 go_wp2_with fail
 refine I.mono ?_
 rintro e w1 ⟨z, rfl, hz, f1⟩
 have HZ : Hid (decide (0 ≤ z) = anyN g l.length) := hz
 clear hz
 go_wp2_with fail
 go_ret
 rw [← HZ.out]
 exact ⟨rfl, f1⟩
set_option maxRecDepth 100000 in
set_option maxHeartbeats 1000000 in
theorem askFd_any (w : World) (v : Value) (l : List Fd) (h : SlG elFd w v l) (q : Nat) (g : Nat → Bool) (ASK : ∀ (wr : World) (k : Nat) (x : Fd), Fr no w wr → l[k]? = some x → Calls Tryz.prog 110 #[.agg #[.string x.name, .int .i64 x.ty.k, .string x.ty.c, .bool x.vol], .pointer (some ⟨q, 0, none⟩)] wr fun e w' => e = .returned (.bool (g k)) ∧ Fr no wr w') :
 Calls Tryz.prog 101 #[v, .func (.func 110) #[] #[.pointer (some ⟨q, 0, none⟩)]] w fun e w' => ∃ z : Int, e = .returned (.int .i64 z) ∧ decide (0 ≤ z) = anyN g l.length ∧ Fr no w w' := by
 obtain ⟨ad, cp, rfl, hcap, hmx, hit⟩ := h
 unfold maxLen at hmx
 have HI : Hid (∀ (i : Nat) (x : Fd), l[i]? = some x → ∃ b off, ad = some ⟨b, off, none⟩ ∧ ∀ (j : Nat) (u : Value), (elFd.f x)[j]? = some u → w.cell? ⟨b, off + i * 4 + j, none⟩ = some u) := hit
 have HASK : Hid (_) := ASK
 clear hit ASK
 go_enter Tryz.func101, Tryz.ntmps101
 go_wp2_with fail
 go_loopw [8] (fun i wr => ∃ (k : Nat), i = .int .i64 (k : Int) ∧ k ≤ l.length ∧ Fr no w wr ∧ anyN g k = false) (fun i _ => l.length - (intOf i).toNat)
 case atStart => exact ⟨0, rfl, by omega, Fr.refl _ _, rfl⟩
 case round =>
  obtain ⟨k, rfl, hk, hw, hall⟩ := hrel
  have HA : Hid (anyN g k = false) := hall
  clear hall
  by_cases hlt : k < l.length
  · obtain ⟨x, hx⟩ : ∃ x, l[k]? = some x := ⟨_, List.getElem?_eq_getElem hlt⟩
    obtain ⟨b, off, rfl, hc⟩ := HI.out k x hx
    have hlt' : (k : Int) < (l.length : Int) := by omega
    have c0 : wr.cell? ⟨b, off + k * 4, none⟩ = some (.string x.name) := hw.cell (hc 0 _ rfl) (fun f => f)
    have c1 : wr.cell? ⟨b, off + k * 4 + 1, none⟩ = some (.int .i64 x.ty.k) := hw.cell (hc 1 _ rfl) (fun f => f)
    have c2 : wr.cell? ⟨b, off + k * 4 + 2, none⟩ = some (.string x.ty.c) := hw.cell (hc 2 _ rfl) (fun f => f)
    have c3 : wr.cell? ⟨b, off + k * 4 + 3, none⟩ = some (.bool x.vol) := hw.cell (hc 3 _ rfl) (fun f => f)
    have E := HASK.out wr k x hw hx
    have HW : Hid (Fr no w wr) := hw
    clear hc hw hx
    by_cases hn : g k = true
    · rw [hn] at E
      have HT : Hid (anyN g l.length = true) := anyN_true hlt hn
      clear hn
      go_wp2_with fail
      refine E.mono ?_
      rintro e w2 ⟨rfl, f2⟩
      go_wp2_with fail
      go_ret
      refine ⟨_, rfl, ?_, HW.out.new f2 (fun _ _ f => f)⟩
      rw [HT.out]
      simp
    · have hn' : g k = false := by simpa using hn
      rw [hn'] at E
      have HT : Hid (anyN g (k + 1) = false) := by show _ = _; rw [anyN_succ, HA.out, hn']; rfl
      clear hn hn'
      go_wp2_with fail
      refine E.mono ?_
      rintro e w2 ⟨rfl, f2⟩
      go_wp2_with fail
      go_roundw
      case rel => exact ⟨k + 1, by go_num, by omega, HW.out.new f2 (fun _ _ f => f), HT.out⟩
      case measure => simp [intOf]; omega
  · have hkl : k = l.length := by omega
    subst hkl
    go_wp2_with fail
    go_ret
    refine ⟨_, rfl, ?_, hw⟩
    rw [HA.out]
    rfl
theorem hasFd_any (w : World) (v : Value) (l : List Fd) (h : SlG elFd w v l) (q : Nat) (g : Nat → Bool) (ASK : ∀ (wr : World) (k : Nat) (x : Fd), Fr no w wr → l[k]? = some x → Calls Tryz.prog 110 #[.agg #[.string x.name, .int .i64 x.ty.k, .string x.ty.c, .bool x.vol], .pointer (some ⟨q, 0, none⟩)] wr fun e w' => e = .returned (.bool (g k)) ∧ Fr no wr w') :
 Calls Tryz.prog 66 #[v, .func (.func 110) #[] #[.pointer (some ⟨q, 0, none⟩)]] w fun e w' => e = .returned (.bool (anyN g l.length)) ∧ Fr no w w' := by
 have I := askFd_any w v l h q g ASK
 clear ASK h
 go_enter Tryz.func66, Tryz.ntmps66
 go_wp2_with fail
 refine I.mono ?_
 rintro e w1 ⟨z, rfl, hz, f1⟩
 have HZ : Hid (decide (0 ≤ z) = anyN g l.length) := hz
 clear hz
 go_wp2_with fail
 go_ret
 rw [← HZ.out]
 exact ⟨rfl, f1⟩
set_option maxRecDepth 100000 in
set_option maxHeartbeats 1000000 in
theorem askMs_any (w : World) (v : Value) (l : List Ms) (h : SlG elMs w v l) (q : Nat) (g : Nat → Bool) (ASK : ∀ (wr : World) (k : Nat) (x : Ms), Fr no w wr → l[k]? = some x → Calls Tryz.prog 111 #[.agg #[.string x.name, .slice x.p.a x.p.n x.p.c, .int .i64 x.ret.k, .string x.ret.c, .int .i64 x.lo, .int .i64 x.st, .slice x.c.a x.c.n x.c.c, .slice x.h.a x.h.n x.h.c], .pointer (some ⟨q, 0, none⟩)] wr fun e w' => e = .returned (.bool (g k)) ∧ Fr no wr w') :
 Calls Tryz.prog 54 #[v, .func (.func 111) #[] #[.pointer (some ⟨q, 0, none⟩)]] w fun e w' => ∃ z : Int, e = .returned (.int .i64 z) ∧ decide (0 ≤ z) = anyN g l.length ∧ Fr no w w' := by
 obtain ⟨ad, cp, rfl, hcap, hmx, hit⟩ := h
 unfold maxLen at hmx
 have HI : Hid (∀ (i : Nat) (x : Ms), l[i]? = some x → ∃ b off, ad = some ⟨b, off, none⟩ ∧ ∀ (j : Nat) (u : Value), (elMs.f x)[j]? = some u → w.cell? ⟨b, off + i * 8 + j, none⟩ = some u) := hit
 have HASK : Hid (_) := ASK
 clear hit ASK
 go_enter Tryz.func54, Tryz.ntmps54
 go_wp2_with fail
 go_loopw [8] (fun i wr => ∃ (k : Nat), i = .int .i64 (k : Int) ∧ k ≤ l.length ∧ Fr no w wr ∧ anyN g k = false) (fun i _ => l.length - (intOf i).toNat)
 case atStart => exact ⟨0, rfl, by omega, Fr.refl _ _, rfl⟩
 case round =>
  obtain ⟨k, rfl, hk, hw, hall⟩ := hrel
  have HA : Hid (anyN g k = false) := hall
  clear hall
  by_cases hlt : k < l.length
  · obtain ⟨x, hx⟩ : ∃ x, l[k]? = some x := ⟨_, List.getElem?_eq_getElem hlt⟩
    obtain ⟨b, off, rfl, hc⟩ := HI.out k x hx
    have hlt' : (k : Int) < (l.length : Int) := by omega
    have c0 : wr.cell? ⟨b, off + k * 8, none⟩ = some (.string x.name) := hw.cell (hc 0 _ rfl) (fun f => f)
    have c1 : wr.cell? ⟨b, off + k * 8 + 1, none⟩ = some (.slice x.p.a x.p.n x.p.c) := hw.cell (hc 1 _ rfl) (fun f => f)
    have c2 : wr.cell? ⟨b, off + k * 8 + 2, none⟩ = some (.int .i64 x.ret.k) := hw.cell (hc 2 _ rfl) (fun f => f)
    have c3 : wr.cell? ⟨b, off + k * 8 + 3, none⟩ = some (.string x.ret.c) := hw.cell (hc 3 _ rfl) (fun f => f)
    have c4 : wr.cell? ⟨b, off + k * 8 + 4, none⟩ = some (.int .i64 x.lo) := hw.cell (hc 4 _ rfl) (fun f => f)
    have c5 : wr.cell? ⟨b, off + k * 8 + 5, none⟩ = some (.int .i64 x.st) := hw.cell (hc 5 _ rfl) (fun f => f)
    have c6 : wr.cell? ⟨b, off + k * 8 + 6, none⟩ = some (.slice x.c.a x.c.n x.c.c) := hw.cell (hc 6 _ rfl) (fun f => f)
    have c7 : wr.cell? ⟨b, off + k * 8 + 7, none⟩ = some (.slice x.h.a x.h.n x.h.c) := hw.cell (hc 7 _ rfl) (fun f => f)
    have E := HASK.out wr k x hw hx
    have HW : Hid (Fr no w wr) := hw
    clear hc hw hx
    by_cases hn : g k = true
    · rw [hn] at E
      have HT : Hid (anyN g l.length = true) := anyN_true hlt hn
      clear hn
      go_wp2_with fail
      refine E.mono ?_
      rintro e w2 ⟨rfl, f2⟩
      go_wp2_with fail
      go_ret
      refine ⟨_, rfl, ?_, HW.out.new f2 (fun _ _ f => f)⟩
      rw [HT.out]
      simp
    · have hn' : g k = false := by simpa using hn
      rw [hn'] at E
      have HT : Hid (anyN g (k + 1) = false) := by show _ = _; rw [anyN_succ, HA.out, hn']; rfl
      clear hn hn'
      go_wp2_with fail
      refine E.mono ?_
      rintro e w2 ⟨rfl, f2⟩
      go_wp2_with fail
      go_roundw
      case rel => exact ⟨k + 1, by go_num, by omega, HW.out.new f2 (fun _ _ f => f), HT.out⟩
      case measure => simp [intOf]; omega
  · have hkl : k = l.length := by omega
    subst hkl
    go_wp2_with fail
    go_ret
    refine ⟨_, rfl, ?_, hw⟩
    rw [HA.out]
    rfl
theorem hasMs_any (w : World) (v : Value) (l : List Ms) (h : SlG elMs w v l) (q : Nat) (g : Nat → Bool) (ASK : ∀ (wr : World) (k : Nat) (x : Ms), Fr no w wr → l[k]? = some x → Calls Tryz.prog 111 #[.agg #[.string x.name, .slice x.p.a x.p.n x.p.c, .int .i64 x.ret.k, .string x.ret.c, .int .i64 x.lo, .int .i64 x.st, .slice x.c.a x.c.n x.c.c, .slice x.h.a x.h.n x.h.c], .pointer (some ⟨q, 0, none⟩)] wr fun e w' => e = .returned (.bool (g k)) ∧ Fr no wr w') :
 Calls Tryz.prog 70 #[v, .func (.func 111) #[] #[.pointer (some ⟨q, 0, none⟩)]] w fun e w' => e = .returned (.bool (anyN g l.length)) ∧ Fr no w w' := by
 have I := askMs_any w v l h q g ASK
 clear ASK h
 go_enter Tryz.func70, Tryz.ntmps70
 go_wp2_with fail
 refine I.mono ?_
 rintro e w1 ⟨z, rfl, hz, f1⟩
 have HZ : Hid (decide (0 ≤ z) = anyN g l.length) := hz
 clear hz
 go_wp2_with fail
 go_ret
 rw [← HZ.out]
 exact ⟨rfl, f1⟩
end Go.Proofs.YtalgjpmaafooeaaGreatDoor
/- Whether all classes are there that a class's types name. -/
namespace Go.Proofs.YtalgjpmaafooeaaGreatDoor
open Go.ChangeShapes Go.WideShapes Go.ChangeAt Go.RowKit
open H (ky Owns MapOf ix up nameAt anc Fine obj fault)
theorem Prg.hier {w : World} {p : Nat} {Cs : List Cl} {A : List Nat} (h : Prg w p Cs A) : ∃ hp, w.cell? ⟨p, 0, none⟩ = some (.pointer (some ⟨hp, 0, none⟩)) ∧ ∀ w', Fr no w w' → ∃ ch, H.HB ch w' hp (namesOf Cs) A := by
 obtain ⟨w0, hp, m, v, X, ch, P, hb⟩ := h.ex
 exact ⟨hp, (cells3 P.pb).1, fun w' hf => ⟨ch, hb.keep hf⟩⟩
set_option maxRecDepth 100000 in
set_option maxHeartbeats 1000000 in
theorem isStrange_any (w : World) (p : Nat) (Cs : List Cl) (A : List Nat) (h : Prg w p Cs A) (t : Ty) (ht : fitS t.c) :
 Calls Tryz.prog 108 #[.pointer (some ⟨p, 0, none⟩), .agg #[.int .i64 t.k, .string t.c]] w fun e w' => e = .returned (.bool (strange (namesOf Cs) t)) ∧ Fr no w w' := by
 obtain ⟨hp, b0, hh⟩ := h.hier
 have G0 : Fr no w (w.alloc (.cells #[.int .i64 t.k, .string t.c] 44)) := (Fr.refl no w).alloc _ _
 have E0 : (w.alloc (.cells #[.int .i64 t.k, .string t.c] 44)).heap[w.heap.size]? = some (.cells #[.int .i64 t.k, .string t.c] 44 (0, 0)) := heap_alloc_new w _
 have y0 := cell_at (o := 0) E0
 have y1 := cell_at (o := 1) E0
 simp only [List.getElem?_toArray, List.getElem?_cons_zero, List.getElem?_cons_succ] at y0 y1
 have b0' := G0.cell b0 (fun f => f)
 have HA : Hid (∀ w', Fr no (w.alloc (.cells #[.int .i64 t.k, .string t.c] 44)) w' → Calls Tryz.prog 79 #[.pointer (some ⟨hp, 0, none⟩), .string t.c] w' fun e w2 => e = .returned (.bool (ix t.c (namesOf Cs)).isSome) ∧ w2 = w') := fun w' hf => by
  obtain ⟨ch, hb⟩ := hh w' (G0.new hf (fun _ _ f => f))
  exact H.has_any w' hp _ A hb t.c ht
 have HG : Hid (Fr no w (w.alloc (.cells #[.int .i64 t.k, .string t.c] 44))) := G0
 clear h hh G0 E0 b0
 generalize hW : w.alloc (.cells #[.int .i64 t.k, .string t.c] 44) = W at *
 have KS : Hid (∀ w2, Fr no W w2 → Fr no W w2 ∧ w2.cell? ⟨w.heap.size, 0, none⟩ = some (.int .i64 t.k) ∧ w2.cell? ⟨w.heap.size, 1, none⟩ = some (.string t.c) ∧ w2.cell? ⟨p, 0, none⟩ = some (.pointer (some ⟨hp, 0, none⟩))) := fun w2 f2 => ⟨f2, f2.cell y0 (fun f => f), f2.cell y1 (fun f => f), f2.cell b0' (fun f => f)⟩
 by_cases hk : t.k = 4
 · have HN : Hid (strange (namesOf Cs) t = !(ix t.c (namesOf Cs)).isSome) := by show _ = _; unfold strange; rw [hk]; rfl
   generalize (ix t.c (namesOf Cs)).isSome = is at *
   have hke : (t.k == 4) = true := by rw [hk]; rfl
   rw [hk] at y0 KS
   clear hk hke
   go_enter Tryz.func108, Tryz.ntmps108
   go_wp2_with fail
   go_region_held3 (fun w2 => Fr no W w2 ∧ w2.cell? ⟨w.heap.size, 0, none⟩ = some (.int .i64 4) ∧ w2.cell? ⟨w.heap.size, 1, none⟩ = some (.string t.c) ∧ w2.cell? ⟨p, 0, none⟩ = some (.pointer (some ⟨hp, 0, none⟩))) (with_reducible (first | exact KS.out _ (Fr.refl _ W).drew | assumption)) (first | (go_at_call 79; refine (HA.out _ (Fr.refl no W).drew).mono ?_; rintro e w3 ⟨rfl, rfl⟩))
   go_wp2_with fail
   go_ret
   rw [HN.out]
   exact ⟨rfl, HG.out.drew⟩
 · have HN : Hid (strange (namesOf Cs) t = false) := by show _ = _; unfold strange; rw [decide_eq_false hk]; rfl
   have hke : (t.k == 4) = false := by simpa using hk
   go_enter Tryz.func108, Tryz.ntmps108
   go_wp2_with fail
   go_region
   go_wp2_with fail
   go_ret
   rw [HN.out]
   exact ⟨rfl, HG.out.drew⟩
end Go.Proofs.YtalgjpmaafooeaaGreatDoor
