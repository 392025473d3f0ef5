/- Which types are references. -/
import Derived.Test.YtalgjpmaafooeaaGreatDoorKar
import Derived.Test.YtalgjpmaafooeaaGreatDoorKav
import Derived.Test.YtalgjpmaafooeaaGreatDoorKay
import Derived.DeepKeys4
namespace Go.Proofs.YtalgjpmaafooeaaGreatDoor
open Go.ChangeShapes Go.WideShapes Go.ChangeAt Go.RowKit
open H (ix NewV)
def isR (t : Ty) : Bool := t.k == 3 || t.k == 4 || t.k == 5
set_option maxRecDepth 100000 in
theorem isRef_any (w : World) (k : Int) (c : ByteArray) : Calls Tryz.prog 18 #[.agg #[.int .i64 k, .string c]] w fun e w' => e = .returned (.bool (isR ⟨k, c⟩)) ∧ Fr no w w' := by
 have F : Fr no w (w.alloc (.cells #[.int .i64 k, .string c] 44)) := (Fr.refl no w).alloc _ _
 unfold isR
 simp only
 by_cases h3 : k = 3
 · subst h3
   go_enter Tryz.func18, Tryz.ntmps18
   go_wp2_with fail
   go_ret
   exact ⟨rfl, F⟩
 have g3 : (k == 3) = false := by simpa using h3
 by_cases h4 : k = 4
 · subst h4
   go_enter Tryz.func18, Tryz.ntmps18
   go_wp2_with fail
   go_ret
   exact ⟨rfl, F⟩
 have g4 : (k == 4) = false := by simpa using h4
 have HF : Hid _ := F
 rw [g3, g4, Bool.false_or, Bool.false_or]
 clear F h3 h4
 go_enter Tryz.func18, Tryz.ntmps18
 go_wp2_with fail
 go_ret
 exact ⟨rfl, HF.out⟩
theorem run_make0 (w : World) (n : Nat) (h : n ≤ 1000) : ∃ w', (Instr.makeSlice 56 (.int .i64 0) (.int .i64 (n : Int))).run Tryz.prog w = .ok (.slice (some ⟨w.heap.size, 0, none⟩) 0 n) w' ∧ H.OwnG elB w' (.slice (some ⟨w.heap.size, 0, none⟩) 0 n) [] ∧ Fr no w w' := by
 obtain ⟨i0, hi, hz0, hz1, hz2⟩ := info_parts elB_ok.info
 have hb : elB.b = 1 := rfl
 have := _root_.Go.run_make w elB.t elB.e i0 elB.z elB_ok.und hi hz0 .i64 .i64 (0 : Int) (n : Int) (by omega) (by omega) (by rw [hz2, hb]; omega) (by omega)
 rw [hz1] at this
 refine ⟨_, (show (Instr.makeSlice elB.t (.int .i64 0) (.int .i64 (n : Int))).run Tryz.prog w = _ by simpa using this), ?_, (Fr.refl no w).alloc _ _⟩
 refine ⟨rfl, .inr ⟨w.heap.size, n, _, rfl, Nat.zero_le _, heap_alloc_new w _, Nat.zero_le _, Nat.le_trans h (by decide), ?_, by simp [H.cg]⟩⟩
 simp [madeCells]
set_option maxRecDepth 100000 in
set_option maxHeartbeats 1000000 in
theorem areRefs_any (w : World) (v : Value) (l : List Ty) (h : SlG elTy w v l) (hl : l.length ≤ 1000) : Calls Tryz.prog 53 #[v] w fun e w' => ∃ o n c, e = .returned (.slice o n c) ∧ H.OwnG elB w' (.slice o n c) (l.map isR) ∧ NewV w (.slice o n c) ∧ Fr no w w' := by
 have HS : Hid (SlG elTy w v l) := h
 obtain ⟨ad, cap, rfl, -⟩ := h
 obtain ⟨w1, r1, o1, f1⟩ := run_make0 w l.length hl
 have HO1 : Hid (H.OwnG elB w1 (.slice (some ⟨w.heap.size, 0, none⟩) 0 l.length) [] ∧ Fr no w w1) := ⟨o1, f1⟩
 clear o1 f1
 generalize hn : l.length = n at *
 go_enter Tryz.func53, Tryz.ntmps53
 go_wp2_with fail
 go_loopw [3, 11] (fun lv iv wr => ∃ i : Nat, iv = .int .i64 (i : Int) ∧ i ≤ n ∧ H.OwnG elB wr lv ((l.take i).map isR) ∧ NewV w lv ∧ Fr no w wr) (fun _ iv _ => n - (intOf iv).toNat)
 case atStart => exact ⟨0, rfl, Nat.zero_le _, HO1.out.1, fun k hk => by simp [Value.ownBlock] at hk; omega, HO1.out.2⟩
 case round =>
  obtain ⟨i, rfl, hi, how, hnv, hfr⟩ := hrel
  by_cases hin : i < n
  · have hin' : (i : Int) < (n : Int) := by omega
    obtain ⟨⟨tk, tc⟩, hx⟩ : ∃ x, l[i]? = some x := ⟨_, List.getElem?_eq_getElem (by omega)⟩
    obtain ⟨b, off, cap', e, c0, c1⟩ := ty_at (HS.out.kept hfr) hx
    simp only [Value.slice.injEq] at e
    obtain ⟨rfl, -, -⟩ := e
    simp only at c0 c1
    have HST : Hid ((l.take (i + 1)).map isR = (l.take i).map isR ++ [isR ⟨tk, tc⟩]) := by
     rw [Hid, List.take_add_one, hx]
     simp
    have IR := isRef_any (wr.alloc (.cells #[.int .i64 tk, .string tc] 44)) tk tc
    have HO : Hid (H.OwnG elB wr u3 ((l.take i).map isR) ∧ NewV w u3 ∧ Fr no w wr) := ⟨how, hnv, hfr⟩
    have HL : Hid (((l.take i).map isR).length + [isR ⟨tk, tc⟩].length ≤ 1000000) := by
     simp only [Hid, List.length_map, List.length_take, List.length_cons, List.length_nil]
     omega
    clear hx how hnv hfr
    generalize isR ⟨tk, tc⟩ = rb at *
    go_wp2_with fail
    refine IR.mono ?_
    rintro _ w5 ⟨rfl, f5⟩
    have F5 : Fr no wr w5 := ((Fr.refl no wr).alloc _ _).new f5 (fun _ _ f => f)
    have HO1 : Hid (H.OwnG elB (w5.alloc (.cells #[elB.f rb] elB.e)) u3 ((l.take i).map isR)) := (HO.out.1.keep F5).keep ((Fr.refl no w5).alloc _ _)
    have HFR : Hid (Fr no w (w5.alloc (.cells #[elB.f rb] elB.e))) := (HO.out.2.2.new F5 (fun _ _ f => f)).alloc _ _
    have HSR : Hid _ := H.srcG_one elB_ok w5 rb
    have HNV : Hid (NewV w u3) := HO.out.2.1
    clear IR f5 F5 HO
    go_wp2_with (at_builtin; refine H.wpList_apdG elB_ok _ rfl rfl _ _ rfl u3 ((l.take i).map isR) rfl HO1.out _ rfl [rb] HSR.out HL.out ?_; intro v' w6 o6 s6; have H6 : Hid (H.OwnG elB w6 v' ((l.take i).map isR ++ [rb]) ∧ NewV w v' ∧ Fr no w w6) := ⟨o6, H.NewV.step HNV.out HFR.out s6⟩; clear o6 s6)
    go_roundw
    case rel => exact ⟨i + 1, by go_num, by omega, by rw [HST.out]; exact H6.out.1, H6.out.2⟩
    case measure => simp [intOf]; omega
  · obtain rfl : i = n := by omega
    rw [List.take_of_length_le (by omega)] at how
    have HO : Hid (H.OwnG elB wr u3 (l.map isR) ∧ NewV w u3 ∧ Fr no w wr) := ⟨how, hnv, hfr⟩
    clear how hnv hfr
    go_wp2_with fail
    go_ret
    obtain ⟨o', c', e⟩ := HO.out.1.form
    exact ⟨o', _, c', by rw [← e]; rfl, by rw [← e]; exact HO.out.1, by rw [← e]; exact HO.out.2.1, HO.out.2.2⟩
end Go.Proofs.YtalgjpmaafooeaaGreatDoor
/- A row of pushes: what is asked of it, its states. -/
namespace Go.Proofs.YtalgjpmaafooeaaGreatDoor
open Go.ChangeShapes Go.WideShapes Go.ChangeAt Go.RowKit
open H (ky Owns MapOf ix NewV)
def op4 (k : Nat) : Int × Int := if k = 0 then (1, 0) else if k = 1 then (2, 1) else if k = 2 then (25, 2) else (3, 0)
def ty4 (k : Nat) : Ty := if k = 0 then kT 1 else if k = 1 then kT 2 else if k = 2 then ⟨4, sMain⟩ else kT 5
theorem four {k : Nat} (h : k < 4) : k = 0 ∨ k = 1 ∨ k = 2 ∨ k = 3 := by omega
theorem isR4 {k : Nat} (h : k < 4) : isR (ty4 k) = decide (2 ≤ k) := by
 rcases four h with rfl | rfl | rfl | rfl <;> decide
def pool3 : List Cs := [⟨1, 0, 0, 0, e0, e0⟩, ⟨2, 0, 0, 0, e0, e0⟩, ⟨3, 0, 0, 0, sMain, e0⟩]
def rsT (s : Nat) : List (Int × Int) := [op4 s, (5, 1), (45, 0)]
def rsL (ks : List Nat) (s : Nat) : List (Int × Int) := ks.map op4 ++ rsT s
def rsC (ks : List Nat) (s : Nat) : List (Int × Int) := rsL ks s ++ [(33, 0)]
def lo3 : List Ty := [⟨4, sMain⟩, top, top]
theorem run4 {k : Nat} (h : k < 4) (lo st : List Ty) : runErr (ruleP (op4 k).1) (op4 k) ⟨true, lo, st⟩ = 0 ∧ runS (ruleP (op4 k).1) (op4 k) ⟨true, lo, st⟩ = ⟨true, lo, st ++ [ty4 k]⟩ := by
 rcases four h with rfl | rfl | rfl | rfl <;> simp [op4, ty4, ruleP, runErr, runS, readE]
theorem has4 : ∀ k : Fin 4, has (op4 k.val).1 1 = false ∧ has (op4 k.val).1 2 = false := by decide +kernel
theorem okL4 {k : Nat} (h : k < 4) (lo st : List Ty) (h1 : lo.length ≤ 100) (h2 : st.length ≤ 100) : OkL (op4 k) ⟨true, lo, st⟩ := by
 refine ⟨rfl, ?_, ?_, ?_, ?_, ?_, ?_, ?_, ?_, ?_⟩
 · rcases four h with rfl | rfl | rfl | rfl <;> intro t ht <;> simp [op4, ruleP] at ht
 · rcases four h with rfl | rfl | rfl | rfl <;> intro e <;> simp [op4] at e
 · rcases four h with rfl | rfl | rfl | rfl <;> decide
 · rcases four h with rfl | rfl | rfl | rfl <;> intro e <;> simp [op4] at e
 · rcases four h with rfl | rfl | rfl | rfl <;> intro e <;> simp [op4] at e
 · rcases four h with rfl | rfl | rfl | rfl <;> decide
 · rcases four h with rfl | rfl | rfl | rfl <;> decide
 · rw [(run4 h lo st).2]; simp only; omega
 · rw [(run4 h lo st).2]; simp; omega
theorem push_ok (l2 : List (Int × Int)) (lo : List Ty) (hl : lo.length ≤ 100) : ∀ (ks : List Nat) (st : List Ty), (∀ k ∈ ks, k < 4) → st.length + ks.length ≤ 12 → lineOk 12 l2 ⟨true, lo, st ++ ks.map ty4⟩ → lineE 12 l2 ⟨true, lo, st ++ ks.map ty4⟩ = 0 →
 lineOk 12 (ks.map op4 ++ l2) ⟨true, lo, st⟩ ∧ lineE 12 (ks.map op4 ++ l2) ⟨true, lo, st⟩ = 0
 | [], st, _, _, h1, h2 => by
  rw [List.map_nil, List.append_nil] at h1 h2
  exact ⟨h1, h2⟩
 | k :: ks, st, hk, hn, h1, h2 => by
  have hk4 := hk k (by simp)
  simp only [List.length_cons] at hn
  obtain ⟨e1, e2⟩ := run4 hk4 lo st
  have es : st ++ (k :: ks).map ty4 = (st ++ [ty4 k]) ++ ks.map ty4 := by simp
  rw [es] at h1 h2
  obtain ⟨r1, r2⟩ := push_ok l2 lo hl ks (st ++ [ty4 k]) (fun j hj => hk j (by simp [hj])) (by simp; omega) h1 h2
  have hb := has4 ⟨k, hk4⟩
  simp only at hb
  constructor
  · show lineOk 12 (op4 k :: (ks.map op4 ++ l2)) ⟨true, lo, st⟩
    refine ⟨okL4 hk4 lo st hl (by omega), hb.1, hb.2, fun _ _ => ?_⟩
    rw [e2]
    exact r1
  · show lineE 12 (op4 k :: (ks.map op4 ++ l2)) ⟨true, lo, st⟩ = 0
    unfold lineE
    rw [e1, if_neg (by simp), e2, if_neg (by simp; omega)]
    exact r2
theorem push_S (l2 : List (Int × Int)) (lo : List Ty) : ∀ (ks : List Nat) (st : List Ty), (∀ k ∈ ks, k < 4) → (∀ j, j ≤ ks.length → lineS (ks.map op4 ++ l2) ⟨true, lo, st⟩ j = ⟨true, lo, st ++ (ks.take j).map ty4⟩) ∧ ∀ j, lineS (ks.map op4 ++ l2) ⟨true, lo, st⟩ (ks.length + j) = lineS l2 ⟨true, lo, st ++ ks.map ty4⟩ j
 | [], st, _ => by
  refine ⟨fun j hj => ?_, fun j => by simp⟩
  obtain rfl : j = 0 := by simpa using hj
  simp [lineS]
 | k :: ks, st, hk => by
  have e2 := (run4 (hk k (by simp)) lo st).2
  obtain ⟨r1, r2⟩ := push_S l2 lo ks (st ++ [ty4 k]) (fun j hj => hk j (by simp [hj]))
  constructor
  · intro j hj
    cases j with
    | zero => simp [lineS]
    | succ j =>
     show lineS (ks.map op4 ++ l2) (runS (ruleP (op4 k).1) (op4 k) ⟨true, lo, st⟩) j = _
     rw [e2, r1 j (by simpa using hj)]
     simp
  · intro j
    rw [show (k :: ks).length + j = (ks.length + j) + 1 by simp; omega]
    show lineS (ks.map op4 ++ l2) (runS (ruleP (op4 k).1) (op4 k) ⟨true, lo, st⟩) (ks.length + j) = _
    rw [e2, r2 j]
    simp
theorem tail_run (s : Nat) (st : List Ty) :
 runErr (ruleP 5) (5, 1) ⟨true, lo3, st ++ [ty4 s]⟩ = 0 ∧ runS (ruleP 5) (5, 1) ⟨true, lo3, st ++ [ty4 s]⟩ = ⟨true, [⟨4, sMain⟩, ty4 s, top], st⟩ ∧ ∀ lo, runErr (ruleP 45) (45, 0) ⟨true, lo, st⟩ = 0 ∧ runS (ruleP 45) (45, 0) ⟨true, lo, st⟩ = ⟨true, lo, st⟩ := by
 refine ⟨?_, ?_, fun lo => ⟨?_, ?_⟩⟩
 · simp [runErr, ruleP, readE, kT, fitT]
 · simp [runS, ruleP, lo3, List.getD_eq_getElem?_getD]
 · simp [runErr, ruleP, readE]
 · simp [runS, ruleP]
theorem has_tail : has 5 1 = false ∧ has 5 2 = false ∧ has 45 1 = false ∧ has 45 2 = false ∧ has 33 1 = true := by decide +kernel
theorem tail_ok {s : Nat} (hs : s < 4) (st : List Ty) (hn : st.length ≤ 10) : lineOk 12 (rsT s) ⟨true, lo3, st⟩ ∧ lineE 12 (rsT s) ⟨true, lo3, st⟩ = 0 := by
 obtain ⟨e1, e2⟩ := run4 hs lo3 st
 obtain ⟨t1, t2, t3⟩ := tail_run s st
 obtain ⟨y1, y2⟩ := t3 [⟨4, sMain⟩, ty4 s, top]
 obtain ⟨b1, b2, b3, b4, -⟩ := has_tail
 have hb := has4 ⟨s, hs⟩
 simp only at hb
 constructor
 · refine ⟨okL4 hs lo3 st (by decide) (by omega), hb.1, hb.2, fun _ _ => ?_⟩
   rw [e2]
   refine ⟨⟨rfl, ?_, ?_, by decide, fun e => by simp at e, fun _ => ⟨by decide, show (1 : Int) < 3 by decide, rfl⟩, by decide, by decide, ?_, ?_⟩, b1, b2, fun _ _ => ?_⟩
   · intro t ht
     simp [ruleP] at ht
     rw [ht]
     exact .inr (.inr rfl)
   · intro e
     simp at e
   · rw [t2]; exact show 3 ≤ 1000 by decide
   · rw [t2]; simp only; omega
   · rw [t2]
     refine ⟨⟨rfl, ?_, ?_, by decide, fun e => by simp at e, fun e => by simp at e, by decide, by decide, ?_, ?_⟩, b3, b4, fun _ _ => ?_⟩
     · intro t ht
       simp [ruleP] at ht
     · intro e
       simp at e
     · rw [y2]; exact show 3 ≤ 1000 by decide
     · rw [y2]; simp only; omega
     · rw [y2]
       exact ⟨rfl, show 3 ≤ 1000 by decide, by simp only; omega⟩
 · unfold rsT lineE
   rw [e1, if_neg (by simp), e2, if_neg (by simp; omega)]
   unfold lineE
   rw [t1, if_neg (by simp), t2, if_neg (by simp; omega)]
   unfold lineE
   rw [y1, if_neg (by simp), y2, if_neg (by simp; omega)]
   rfl
def rsS (ks : List Nat) (s j : Nat) : Stt := if j ≤ ks.length then ⟨true, lo3, (ks.take j).map ty4⟩ else if j = ks.length + 1 then ⟨true, lo3, ks.map ty4 ++ [ty4 s]⟩ else ⟨true, [⟨4, sMain⟩, ty4 s, top], ks.map ty4⟩
theorem line_S {ks : List Nat} {s : Nat} (hk : ∀ k ∈ ks, k < 4) (hs : s < 4) {j : Nat} (hj : j ≤ ks.length + 3) : lineS (rsL ks s) ⟨true, lo3, []⟩ j = rsS ks s j := by
 obtain ⟨p1, p2⟩ := push_S (rsT s) lo3 ks [] hk
 have e2 := (run4 hs lo3 ([] ++ ks.map ty4)).2
 obtain ⟨-, t2, t3⟩ := tail_run s ([] ++ ks.map ty4)
 have y2 := (t3 [⟨4, sMain⟩, ty4 s, top]).2
 unfold rsS rsL
 by_cases h1 : j ≤ ks.length
 · rw [if_pos h1, p1 j h1]
   simp
 · rw [if_neg h1]
   by_cases h2 : j = ks.length + 1
   · rw [if_pos h2, h2, p2 1]
     show lineS _ (runS (ruleP (op4 s).1) (op4 s) _) 0 = _
     rw [e2]
     simp [lineS]
   · rw [if_neg h2]
     by_cases h3 : j = ks.length + 2
     · rw [h3, p2 2]
       show lineS _ (runS (ruleP 5) (5, 1) (runS (ruleP (op4 s).1) (op4 s) _)) 0 = _
       rw [e2, t2]
       simp [lineS]
     · obtain rfl : j = ks.length + 3 := by omega
       rw [p2 3]
       show lineS _ (runS (ruleP 45) (45, 0) (runS (ruleP 5) (5, 1) (runS (ruleP (op4 s).1) (op4 s) _))) 0 = _
       rw [e2, t2, y2]
       simp [lineS]
end Go.Proofs.YtalgjpmaafooeaaGreatDoor
/- A row of pushes is accepted, with its states. -/
namespace Go.Proofs.YtalgjpmaafooeaaGreatDoor
open Go.ChangeShapes Go.WideShapes Go.ChangeAt Go.RowKit
open H (ky Owns MapOf ix NewV)
theorem rsC_len (ks : List Nat) (s : Nat) : (rsC ks s).length = ks.length + 4 := by
 unfold rsC rsL rsT
 simp
theorem rsL_len (ks : List Nat) (s : Nat) : (rsL ks s).length = ks.length + 3 := by
 unfold rsL rsT
 simp
theorem mem_row {ks : List Nat} {s : Nat} (hk : ∀ k ∈ ks, k < 4) (hs : s < 4) {x : Int × Int} (h : x ∈ rsL ks s) : (∃ k, k < 4 ∧ x = op4 k) ∨ x = (5, 1) ∨ x = (45, 0) := by
 unfold rsL rsT at h
 simp only [List.mem_append, List.mem_map, List.mem_cons, List.not_mem_nil, or_false] at h
 rcases h with ⟨k, h1, rfl⟩ | rfl | rfl | rfl
 · exact .inl ⟨k, hk k h1, rfl⟩
 · exact .inl ⟨s, hs, rfl⟩
 · exact .inr (.inl rfl)
 · exact .inr (.inr rfl)
theorem ck4 (n : Nat) {k : Nat} (h : k < 4) : ckIns pool3 3 n (op4 k) = 0 := by
 rcases four h with rfl | rfl | rfl | rfl <;> kernel_rfl
theorem ops4 {k : Nat} (h : k < 4) : (op4 k).1 ∈ plainOps ∨ (op4 k).1 = 33 ∨ (op4 k).1 = 25 ∧ ∃ (i : Nat) (y : Cs), (op4 k).2 = (i : Int) ∧ pool3[i]? = some y ∧ y.c = sMain := by
 rcases four h with rfl | rfl | rfl | rfl
 · exact .inl (by decide)
 · exact .inl (by decide)
 · exact .inr (.inr ⟨rfl, 2, _, rfl, rfl, rfl⟩)
 · exact .inl (by decide)
theorem fit3 : ∀ x ∈ pool3, fitS x.c ∧ fitS x.m := by
 intro x hx
 simp only [pool3, List.mem_cons, List.not_mem_nil, or_false] at hx
 rcases hx with rfl | rfl | rfl <;> exact ⟨fitS_lit (by decide), fitS_lit (by decide)⟩
theorem lineL_none : ∀ (l : List (Int × Int)), (∀ x ∈ l, behP x [] = ([], true)) → lineL l [] = true
 | [], _ => rfl
 | x :: l, h => by
  unfold lineL
  rw [h x (by simp), if_neg (by simp)]
  exact lineL_none l (fun y hy => h y (by simp [hy]))
theorem beh4 {k : Nat} (h : k < 4) : behP (op4 k) [] = ([], true) := by
 rcases four h with rfl | rfl | rfl | rfl <;> decide
theorem ask_row (ks : List Nat) (s : Nat) (hk : ∀ k ∈ ks, k < 4) (hs : s < 4) (hn : ks.length ≤ 10) : ∃ ps lr, Asked 3 12 [top, top] (rsC ks s) pool3 200 (0, ps) ∧ fitsP (rsC ks s) 200 (comeP 0 [] (wk0 (rsC ks s).length)).2 = some lr ∧ lr.1 = true ∧ ps.1.length = (rsC ks s).length ∧ ∀ j, j < (rsC ks s).length → ps.1[j]? = some (rsS ks s j) := by
 have hlen := rsC_len ks s
 have hl2 := rsL_len ks s
 obtain ⟨t1, t2⟩ := tail_ok hs ([] ++ ks.map ty4) (by simpa using hn)
 obtain ⟨p1, p2⟩ := push_ok (rsT s) lo3 (by decide) ks [] hk (by simp; omega) t1 t2
 obtain ⟨ps, h3, h5⟩ := settle_lineS 12 (rsC ks s) (rsL ks s) 0 _ (beg sMain [top, top] (rsC ks s).length) 200 (by rw [List.drop_zero]; rfl) (at_beg _ _ _ (by omega)) p1 (by omega)
 have p2' : lineE 12 (rsL ks s) ⟨true, ⟨4, sMain⟩ :: [top, top], []⟩ = 0 := p2
 rw [p2'] at h3
 obtain ⟨-, h7, h6⟩ := h5 p2'
 have hops : ∀ x ∈ rsL ks s, has x.1 1 = false ∧ has x.1 2 = false := by
  intro x hx
  obtain ⟨b1, b2, b3, b4, -⟩ := has_tail
  rcases mem_row hk hs hx with ⟨k, h, rfl⟩ | rfl | rfl
  · exact has4 ⟨k, h⟩
  · exact ⟨b1, b2⟩
  · exact ⟨b3, b4⟩
 obtain ⟨r, h4⟩ := fits_line (rsC ks s) (rsL ks s) 0 [] (comeP 0 [] (wk0 (rsC ks s).length)).2 200 (by rw [List.drop_zero]; rfl) (atW_beg _ (by omega)) hops (by omega)
 refine ⟨ps, _, ⟨link_main 3 12 _ pool3 (by decide) (by omega) (by omega) (by decide +kernel) (fun x hx => ?_) ?_ (by kernel_rfl), fit_main 3 12 _ pool3 fit3, .inr (.inl ⟨rfl, rfl⟩), by omega, by omega, fun x hx => ?_, h3⟩, h4, ?_, h7, fun j hj => ?_⟩
 · rcases List.mem_append.1 hx with hx | hx
   · rcases mem_row hk hs hx with ⟨k, h, rfl⟩ | rfl | rfl
     · exact ck4 _ h
     · kernel_rfl
     · kernel_rfl
   · rw [List.mem_singleton.1 hx]
     kernel_rfl
 · have : (rsC ks s).getD ((rsC ks s).length - 1) (0, 0) = (33, 0) := by
    unfold rsC
    rw [List.getD_eq_getElem?_getD, List.length_append, List.length_singleton, Nat.add_sub_cancel, List.getElem?_append_right (Nat.le_refl _), Nat.sub_self]
    rfl
   rw [this]
   exact has_tail.2.2.2.2
 · rcases List.mem_append.1 hx with hx | hx
   · rcases mem_row hk hs hx with ⟨k, h, rfl⟩ | rfl | rfl
     · exact ops4 h
     · exact .inl (by decide)
     · exact .inl (by decide)
   · rw [List.mem_singleton.1 hx]
     exact .inr (.inl rfl)
 · refine lineL_none _ (fun x hx => ?_)
   rcases mem_row hk hs hx with ⟨k, h, rfl⟩ | rfl | rfl
   · exact beh4 h
   · decide
   · decide
 · rw [← line_S hk hs (by omega)]
   have := h6 j (by omega)
   rwa [Nat.zero_add] at this
def kk3 : List (Int × Int) := [(3, 0), (6, 0), (33, 0)]
def kS (j : Nat) : Stt := ⟨true, [⟨4, sMain⟩, top], if j = 1 then [kT 5] else []⟩
theorem ops3 : ∀ x ∈ kk3, x.1 ∈ plainOps ∨ x.1 = 33 ∨ x.1 = 25 ∧ ∃ (i : Nat) (y : Cs), x.2 = (i : Int) ∧ ([] : List Cs)[i]? = some y ∧ y.c = sMain := by
 intro x hx
 simp only [kk3, List.mem_cons, List.not_mem_nil, or_false] at hx
 rcases hx with rfl | rfl | rfl
 · exact .inl (by decide)
 · exact .inl (by decide)
 · exact .inr (.inl rfl)
theorem ask_kk3 : ∃ ps lr, Asked 2 1 [top] kk3 [] 10 (0, ps) ∧ fitsP kk3 10 (comeP 0 [] (wk0 kk3.length)).2 = some lr ∧ lr.1 = true ∧ ps.1.length = 3 ∧ ∀ j, j < 3 → ps.1[j]? = some (kS j) := by
 obtain ⟨⟨r0, ps⟩, hr⟩ : ∃ res, settleP 1 kk3 (kk3.map fun x => ruleP x.1) 10 0 (beg sMain [top] kk3.length) = some res := Option.isSome_iff_exists.1 (by decide +kernel)
 obtain ⟨lr, hl⟩ : ∃ lr, fitsP kk3 10 (comeP 0 [] (wk0 kk3.length)).2 = some lr := Option.isSome_iff_exists.1 (by decide +kernel)
 have h0 : (settleP 1 kk3 (kk3.map fun x => ruleP x.1) 10 0 (beg sMain [top] kk3.length)).map (fun r => (r.1, r.2.1)) = some (0, [kS 0, kS 1, kS 2]) := by kernel_rfl
 have h1 : (fitsP kk3 10 (comeP 0 [] (wk0 kk3.length)).2).map (fun r => r.1) = some true := by decide +kernel
 rw [hr] at h0
 rw [hl] at h1
 simp only [Option.map_some, Option.some.injEq, Prod.mk.injEq] at h0 h1
 obtain ⟨rfl, e1⟩ := h0
 refine ⟨ps, lr, ⟨by decide +kernel, fit_main 2 1 kk3 [] nopool, .inr (.inr ⟨rfl, rfl⟩), by decide, by decide, ops3, hr⟩, hl, h1, by rw [e1]; rfl, fun j hj => ?_⟩
 rw [e1]
 match j, hj with
 | 0, _ => rfl
 | 1, _ => rfl
 | 2, _ => rfl
end Go.Proofs.YtalgjpmaafooeaaGreatDoor
/- The map from places to what is a reference there. -/
namespace Go.Proofs.YtalgjpmaafooeaaGreatDoor
open Go.ChangeShapes Go.WideShapes Go.ChangeAt Go.RowKit
open H (ix NewV)
theorem laid0 : laidOutB Tryz.prog = true := by kernel_rfl
theorem keyed91 : Maps.Keyed Tryz.prog 91 := Maps.Keyed.of_law (deep_law_laid laid0 (m := Tryz.prog.types.size + 1) (by decide +kernel) (by decide +kernel) (by decide +kernel) (by decide +kernel))
def pk (j : Nat) : Value := .agg #[.string sMain, .string smain, .int .i64 (j : Int)]
instance : Inhabited Lit := ⟨.bool false⟩
noncomputable def kl (j : Nat) : Lit := Classical.epsilon (fun l => keyOf Tryz.prog 91 (pk j) = some l)
theorem key_all : ∀ j : Fin 16, (keyOf Tryz.prog 91 (pk j.val)).isSome = true := by decide +kernel
theorem kl_key {j : Nat} (h : j < 16) : keyOf Tryz.prog 91 (pk j) = some (kl j) := by
 have h1 := key_all ⟨j, h⟩
 simp only at h1
 obtain ⟨l, hl⟩ := Option.isSome_iff_exists.1 h1
 exact Classical.epsilon_spec (p := fun l => keyOf Tryz.prog 91 (pk j) = some l) ⟨l, hl⟩
theorem kl_lit {j : Nat} (h : j < 16) : WideAt.IsKeyLit (kl j) := keyed91.key (kl_key h)
theorem kl_inj {i j : Nat} (hi : i < 16) (hj : j < 16) (h : kl i = kl j) : i = j := by
 have h1 := kl_key hi
 have h2 := kl_key hj
 rw [h] at h1
 have := keyed91.inj h1 h2
 simp [pk] at this
 omega
def encS (s : Sv) : DataW Unit := match s.a with
 | none => .agg [.lit (.int .i64 (s.n : Int)), .lit (.int .i64 (s.c : Int))]
 | some ad => .agg [.lit (.int .i64 (ad.block : Int)), .lit (.int .i64 (ad.off : Int)), .lit (.int .i64 (s.n : Int)), .lit (.int .i64 (s.c : Int))]
def okS (s : Sv) : Prop := ∀ ad, s.a = some ad → ad.spot = none
instance (s : Sv) : Decidable (∀ ad, s.a = some ad → ad.spot = none) := match h : s.a with
 | none => isTrue (fun ad e => by simp at e)
 | some ad => if k : ad.spot = none then isTrue (fun x e => by simp at e; rw [← e]; exact k) else isFalse (fun f => k (f ad rfl))
theorem encS_inj {s t : Sv} (hs : okS s) (ht : okS t) (h : encS s = encS t) : s = t := by
 obtain ⟨a, n, c⟩ := s
 obtain ⟨b, m, d⟩ := t
 cases a with
 | none => cases b with
  | none => simp [encS] at h; simp; omega
  | some y => simp [encS] at h
 | some x => cases b with
  | none => simp [encS] at h
  | some y =>
   have h1 := hs x rfl
   have h2 := ht y rfl
   obtain ⟨xb, xo, xs⟩ := x
   obtain ⟨yb, yo, ys⟩ := y
   simp only at h1 h2
   subst h1 h2
   simp [encS] at h
   simp
   omega
abbrev Rf := Sv × Sv
def rfV (q : Rf) : Value := .agg #[.slice q.1.a q.1.n q.1.c, .slice q.2.a q.2.n q.2.c]
def encR (q : Rf) : DataW Unit := .agg [encS q.1, encS q.2]
def zRf : Rf := (⟨none, 0, 0⟩, ⟨none, 0, 0⟩)
def refElem (v : Value) : Option (DataW Unit × List MemPlace) :=
 match v with
 | .agg cs => match cs.toList with
  | [.slice a n c, .slice b m d] => if (∀ ad, (⟨a, n, c⟩ : Sv).a = some ad → ad.spot = none) ∧ (∀ ad, (⟨b, m, d⟩ : Sv).a = some ad → ad.spot = none) then some (encR (⟨a, n, c⟩, ⟨b, m, d⟩), []) else none
  | _ => none
 | _ => none
theorem refElem_mk (q : Rf) (h1 : okS q.1) (h2 : okS q.2) : refElem (rfV q) = some (encR q, []) := by
 obtain ⟨⟨a, n, c⟩, ⟨b, m, d⟩⟩ := q
 unfold rfV refElem
 simp only
 exact if_pos ⟨h1, h2⟩
theorem refElem_inv {v : Value} {z : DataW Unit × List MemPlace} (h : refElem v = some z) : ∃ q : Rf, v = rfV q ∧ z = (encR q, []) ∧ okS q.1 ∧ okS q.2 := by
 unfold refElem at h
 split at h
 · rename_i cs
   split at h
   · rename_i a n c b m d he
     split at h
     · rename_i hk
       simp only [Option.some.injEq] at h
       refine ⟨(⟨a, n, c⟩, ⟨b, m, d⟩), ?_, h.symm, hk.1, hk.2⟩
       unfold rfV
       congr 1
       exact Array.ext' he
     · simp at h
   · simp at h
 · simp at h
def RM (w : World) (m n : Nat) (f : Nat → Option Rf) : Prop :=
 ∃ D, w.ownsMap (H := Unit) Tryz.prog 91 refElem m n D ∧ Maps.IsMap D ∧ (∀ j q, f j = some q → okS q.1 ∧ okS q.2) ∧ ∀ j, j < 16 → Maps.has D (kl j) = (f j).isSome ∧ ∀ q, f j = some q → D.atKey (kl j) (encR zRf) = encR q
theorem zero88 (w : World) : (zeroValue 88).run Tryz.prog w = .ok (rfV zRf) w := by kernel_rfl
theorem okZ : okS (⟨none, 0, 0⟩ : Sv) := fun ad e => by simp at e
theorem RM.made (w : World) : RM (w.alloc (.map #[] 0)) w.heap.size 0 (fun _ => none) :=
 ⟨.map [], World.ownsMap_made w Tryz.prog 91 refElem, Maps.isMap_empty, fun j q h => by simp at h, fun j _ => ⟨rfl, fun q h => by simp at h⟩⟩
theorem RM.kept {S : Nat → Prop} {w w' : World} {m n : Nat} {f : Nat → Option Rf} (h : RM w m n f) (hf : Fr S w w') (hS : ¬ S m) : RM w' m n f := by
 obtain ⟨D, h1, h2⟩ := h
 refine ⟨D, ?_, h2⟩
 have hlt := h1.lt
 obtain ⟨es, clock, hb, F, hs, hD⟩ := h1
 exact ⟨es, clock, (hf.block m hlt hS).trans hb, F, hs, hD⟩
theorem RM.lt {w : World} {m n : Nat} {f : Nat → Option Rf} (h : RM w m n f) : m < w.heap.size := by
 obtain ⟨D, h1, -⟩ := h
 exact h1.lt
theorem RM.isMap {w : World} {m n : Nat} {f : Nat → Option Rf} (h : RM w m n f) : ∃ es c, w.heap[m]? = some (.map es c) := by
 obtain ⟨D, ⟨es, c, h1, _⟩, _⟩ := h
 exact ⟨es, c, h1⟩
theorem RM.look {w : World} {m n : Nat} {f : Nat → Option Rf} (h : RM w m n f) {j : Nat} (hj : j < 16) :
 ∃ q : Rf, (Instr.lookup 80 (.map (some m)) (pk j) true).run Tryz.prog w = .ok (.tuple #[rfV q, .bool (f j).isSome]) w ∧ ∀ p, f j = some p → q = p := by
 obtain ⟨D, h1, h2, h3, h4⟩ := h
 obtain ⟨v, ps, hrun, hv⟩ := h1.look_ok keyed91 Tryz.underlying80 (zero88 w) (refElem_mk zRf okZ okZ) (kl_key hj)
 obtain ⟨q, rfl, hq, o1, o2⟩ := refElem_inv hv
 rw [(h4 j hj).1] at hrun
 refine ⟨q, hrun, fun p hp => ?_⟩
 have e1 := congrArg Prod.fst hq
 simp only at e1
 rw [(h4 j hj).2 p hp] at e1
 obtain ⟨k1, k2⟩ := h3 j p hp
 unfold encR at e1
 simp only [DataW.agg.injEq, List.cons.injEq, and_true] at e1
 exact Prod.ext (encS_inj o1 k1 e1.1.symm) (encS_inj o2 k2 e1.2.symm)
theorem RM.store {w : World} {m n : Nat} {f : Nat → Option Rf} (h : RM w m n f) (hn : n ≤ 1000) {j : Nat} (hj : j < 16) (q : Rf) (h1 : okS q.1) (h2 : okS q.2) :
 ∃ w', (Instr.mapUpdate 80 (.map (some m)) (pk j) (rfV q)).run Tryz.prog w = .ok () w' ∧ RM w' m (n + 1) (fun i => if i = j then some q else f i) ∧ Fr (fun i => i = m) w w' := by
 obtain ⟨D, d1, d2, d3, d4⟩ := h
 obtain ⟨w', hrun, o1, t1⟩ := d1.store keyed91 Tryz.underlying80 (by unfold maxLen; omega) (kl_key hj) (refElem_mk q h1 h2)
 refine ⟨w', hrun, ⟨_, o1, d2.put _ _, fun i p hp => ?_, fun i hi => ?_⟩, H.turned_fr t1⟩
 · dsimp only at hp
   by_cases e : i = j
   · rw [if_pos e] at hp
     obtain rfl := Option.some.inj hp
     exact ⟨h1, h2⟩
   · rw [if_neg e] at hp
     exact d3 i p hp
 · dsimp only
   by_cases e : i = j
   · subst e
     rw [if_pos rfl]
     refine ⟨by rw [Maps.has_put_same d2 (kl_lit hi)]; rfl, fun p hp => ?_⟩
     obtain rfl := Option.some.inj hp
     exact Maps.atKey_put_same d2 (kl_lit hi) _ _
   · have hne : kl i ≠ kl j := fun k => e (kl_inj hi hj k)
     rw [if_neg e, Maps.has_put_other hne, Maps.atKey_put_other hne]
     exact d4 i hi
end Go.Proofs.YtalgjpmaafooeaaGreatDoor
