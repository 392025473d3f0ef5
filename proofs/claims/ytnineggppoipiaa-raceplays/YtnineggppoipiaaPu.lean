/- The program's watch: touch. -/
import Derived.Test.YtnineggppoipiaaPt
import Derived.Test.YtnineggppoipiaaRi
namespace Go.Proofs.Ytnineggppoipiaa
open Go.ChangeShapes Go.WideShapes Go.ChangeAt Go.RowKit

def touF (F : Cm) (q : Pk) : Cm := if isB q.t then putP F q (nowP F q.t.toNat) else F
def touB (F : Cm) (q : Pk) : Bool := isB q.t && (unoB (touF F q) q.t.toNat 5 q.a q.i || (decide (q.k = 5) && unoB (touF F q) q.t.toNat 4 q.a q.i))
theorem in_5 : In 5 := by unfold In; omega
theorem in_4 : In 4 := by unfold In; omega

/-- A row of operations that is to be walked; it doesn't unfold by itself. -/
structure WL (ops : Array Oper) (Q : Exit → Act → World → Prop) (l : List Oper) (a : Act) (w : World) : Prop where
  out : wpList Try.prog ops Q l a w
section
variable {ops : Array Oper} {rest : List Oper} {o : Oper} {a : Act} {w : World} {Q : Exit → Act → World → Prop}
theorem WL.region {id : Nat} {l : List Oper} (h : WL l.toArray Q l a w) : Code.wp Try.prog (.region id l.toArray false) Q a w := wp_region_lit h.out
theorem WL.run (d : Option Tmp) (hd : o.dst = d) (v : Value) (w2 : World) (hrun : (execOp a.eval o).run Try.prog w = .ok (.value v) w2) (a2 : Act) (h : WL ops Q rest a2 w2)
    (hw : Region.wanted o (yielded ops a.tmps) = true := by kernel_rfl) (ha : a.put d v = a2 := by kernel_rfl) : WL ops Q (o :: rest) a w := by
  subst hd ha
  constructor
  unfold wpList
  rw [if_pos hw]
  refine .inl ?_
  unfold Oper.wp
  rw [hrun]
  exact h.out
theorem WL.call (d : Option Tmp) (hd : o.dst = d) (f : FuncId) (args : Array Value) (v : Value) (hrun : (execOp a.eval o).run Try.prog w = .ok (.enter f args) w) {R : World → Prop}
    (hc : Calls Try.prog f args w fun e w2 => e = .returned v ∧ R w2) (a2 : Act) (h : ∀ w2, R w2 → WL ops Q rest a2 w2)
    (hw : Region.wanted o (yielded ops a.tmps) = true := by kernel_rfl) (ha : a.put d v = a2 := by kernel_rfl) : WL ops Q (o :: rest) a w := by
  subst hd ha
  constructor
  unfold wpList
  rw [if_pos hw]
  refine .inl ?_
  unfold Oper.wp
  rw [hrun, Oper.upon_enter]
  refine hc.mono fun e w2 hh => ?_
  obtain ⟨rfl, hR⟩ := hh
  exact (h w2 hR).out
theorem WL.skip (d : Option Tmp) (hd : o.dst = d) (a2 : Act) (h : WL ops Q rest a2 w)
    (hw : Region.wanted o (yielded ops a.tmps) = false := by kernel_rfl) (ha : a.put d undef = a2 := by kernel_rfl) : WL ops Q (o :: rest) a w := by
  subst hd ha
  exact ⟨wpList_skip hw h.out⟩
theorem WL.nil (h : Q .normal a w) : WL ops Q [] a w := ⟨wpList_nil h⟩
end
theorem K_frame {K : Act → World → Prop} {a a2 : Act} {w : World} (ha : a = a2) (h : K a2 w) : K a w := ha ▸ h
section
variable {o : Oper} {a : Act} {w : World}
theorem ev_eqcT (x : Nat) (u : Int) {v : Int} (ho : o.op = .binOp .eql 3 (.tmp x) (.const (.int .i64 u)) 3) (hx : a.eval (.tmp x) = .int .i64 v) (hv : v = u) : (execOp a.eval o).run Try.prog w = .ok (.value (.bool true)) w := by
  subst hv
  have hc : a.eval (.const (.int .i64 v)) = .int .i64 v := rfl
  generalize a.eval = ρ at *; unfold execOp; simp [go_sem, ho, hx, hc]
theorem ev_eqcF (x : Nat) (u v : Int) (hne : ¬ v = u) (ho : o.op = .binOp .eql 3 (.tmp x) (.const (.int .i64 u)) 3) (hx : a.eval (.tmp x) = .int .i64 v) : (execOp a.eval o).run Try.prog w = .ok (.value (.bool false)) w := by
  have hc : a.eval (.const (.int .i64 u)) = .int .i64 u := rfl
  generalize a.eval = ρ at *; unfold execOp; simp [go_sem, ho, hx, hc, hne]
end
noncomputable def reg42C : Code := ((Try.f42.body.bind (regionOf 4)).getD .skip)
set_option maxRecDepth 100000 in
theorem reg42 (W : World) (p b3 : Nat) (q : Pk) (b5 b4 : Bool) (hL : ∀ w', Fr no W w' → w'.heap[b3]? = some (.cells (pkL q).toArray 66 (0, 0)))
    (C5 : Calls Try.prog 48 #[.pointer (some ⟨p, 0, none⟩), pkV q, .int .i64 5] W fun e w' => e = .returned (.bool b5) ∧ Fr no W w')
    (C4 : ∀ w1, Fr no W w1 → Calls Try.prog 48 #[.pointer (some ⟨p, 0, none⟩), pkV q, .int .i64 4] w1 fun e w' => e = .returned (.bool b4) ∧ Fr no w1 w')
    (K : Act → World → Prop) (u1 u2 u4 u5 u6 u7 u8 u9 u10 u11 u12 u13 u14 u15 u16 u17 u18 u19 u20 u21 u22 u23 u24 u25 u26 u27 u28 u29 u30 u31 u32 u33 u34 u35 : Value)
    (hQ : ∀ w' y20 y21 y22 y23 y24 y25 y26 y27, Fr no W w' → K ⟨(.pointer (some ⟨p, 0, none⟩) :: u1 :: u2 :: .pointer (some ⟨b3, 0, none⟩) :: u4 :: u5 :: u6 :: u7 :: u8 :: u9 :: u10 :: u11 :: u12 :: u13 :: u14 :: u15 :: .pointer (some ⟨p, 0, none⟩) :: pkV q :: .bool b5 :: .bool b5 :: y20 :: y21 :: y22 :: y23 :: y24 :: y25 :: y26 :: y27 :: .bool (b5 || (decide (q.k = 5) && b4)) :: u29 :: u30 :: u31 :: u32 :: u33 :: u34 :: u35 :: []).toArray, []⟩ w') :
    Code.wp Try.prog reg42C (Exit.then K (fun _ _ _ => False)) ⟨(.pointer (some ⟨p, 0, none⟩) :: u1 :: u2 :: .pointer (some ⟨b3, 0, none⟩) :: u4 :: u5 :: u6 :: u7 :: u8 :: u9 :: u10 :: u11 :: u12 :: u13 :: u14 :: u15 :: u16 :: u17 :: u18 :: u19 :: u20 :: u21 :: u22 :: u23 :: u24 :: u25 :: u26 :: u27 :: u28 :: u29 :: u30 :: u31 :: u32 :: u33 :: u34 :: u35 :: []).toArray, []⟩ W := by
  have HQ : Hid _ := hQ
  have HL : Hid _ := hL
  have C5 : Hid _ := C5
  have C4 : Hid _ := C4
  clear hQ hL
  unfold reg42C
  conv => arg 2; whnf
  refine WL.region ?_
  cases b5
  · by_cases hk : q.k = 5
    · cases b4
      · refine WL.run (some 16) rfl (.pointer (some ⟨p, 0, none⟩)) W (by as_aux_lemma => kernel_rfl) ⟨(.pointer (some ⟨p, 0, none⟩) :: u1 :: u2 :: .pointer (some ⟨b3, 0, none⟩) :: u4 :: u5 :: u6 :: u7 :: u8 :: u9 :: u10 :: u11 :: u12 :: u13 :: u14 :: u15 :: .pointer (some ⟨p, 0, none⟩) :: u17 :: u18 :: u19 :: u20 :: u21 :: u22 :: u23 :: u24 :: u25 :: u26 :: u27 :: u28 :: u29 :: u30 :: u31 :: u32 :: u33 :: u34 :: u35 :: []).toArray, []⟩ ?_
        refine WL.run (some 17) rfl (pkV q) W (ev_load 66 3 (.pointer (some ⟨b3, 0, none⟩)) (pkV q) rfl (by kernel_rfl) (ld66 (HL.out W (Fr.refl no W)))) ⟨(.pointer (some ⟨p, 0, none⟩) :: u1 :: u2 :: .pointer (some ⟨b3, 0, none⟩) :: u4 :: u5 :: u6 :: u7 :: u8 :: u9 :: u10 :: u11 :: u12 :: u13 :: u14 :: u15 :: .pointer (some ⟨p, 0, none⟩) :: pkV q :: u18 :: u19 :: u20 :: u21 :: u22 :: u23 :: u24 :: u25 :: u26 :: u27 :: u28 :: u29 :: u30 :: u31 :: u32 :: u33 :: u34 :: u35 :: []).toArray, []⟩ ?_
        refine WL.call (some 18) rfl 48 _ (.bool false) (by kernel_rfl) (C5.out) ⟨(.pointer (some ⟨p, 0, none⟩) :: u1 :: u2 :: .pointer (some ⟨b3, 0, none⟩) :: u4 :: u5 :: u6 :: u7 :: u8 :: u9 :: u10 :: u11 :: u12 :: u13 :: u14 :: u15 :: .pointer (some ⟨p, 0, none⟩) :: pkV q :: .bool false :: u19 :: u20 :: u21 :: u22 :: u23 :: u24 :: u25 :: u26 :: u27 :: u28 :: u29 :: u30 :: u31 :: u32 :: u33 :: u34 :: u35 :: []).toArray, []⟩ ?_
        rintro w1 F1
        refine WL.run (some 19) rfl (.bool false) w1 (by as_aux_lemma => kernel_rfl) ⟨(.pointer (some ⟨p, 0, none⟩) :: u1 :: u2 :: .pointer (some ⟨b3, 0, none⟩) :: u4 :: u5 :: u6 :: u7 :: u8 :: u9 :: u10 :: u11 :: u12 :: u13 :: u14 :: u15 :: .pointer (some ⟨p, 0, none⟩) :: pkV q :: .bool false :: .bool false :: u20 :: u21 :: u22 :: u23 :: u24 :: u25 :: u26 :: u27 :: u28 :: u29 :: u30 :: u31 :: u32 :: u33 :: u34 :: u35 :: []).toArray, []⟩ ?_
        refine WL.run (some 20) rfl (.pointer (some ⟨b3, 0, none⟩)) w1 (by as_aux_lemma => kernel_rfl) ⟨(.pointer (some ⟨p, 0, none⟩) :: u1 :: u2 :: .pointer (some ⟨b3, 0, none⟩) :: u4 :: u5 :: u6 :: u7 :: u8 :: u9 :: u10 :: u11 :: u12 :: u13 :: u14 :: u15 :: .pointer (some ⟨p, 0, none⟩) :: pkV q :: .bool false :: .bool false :: .pointer (some ⟨b3, 0, none⟩) :: u21 :: u22 :: u23 :: u24 :: u25 :: u26 :: u27 :: u28 :: u29 :: u30 :: u31 :: u32 :: u33 :: u34 :: u35 :: []).toArray, []⟩ ?_
        refine WL.run (some 21) rfl (.int .i64 q.k) w1 (ev_load 3 20 (.pointer (some ⟨b3, 0, none⟩)) (.int .i64 q.k) rfl (by kernel_rfl) (ld3 (cells4 (HL.out w1 F1)).1)) ⟨(.pointer (some ⟨p, 0, none⟩) :: u1 :: u2 :: .pointer (some ⟨b3, 0, none⟩) :: u4 :: u5 :: u6 :: u7 :: u8 :: u9 :: u10 :: u11 :: u12 :: u13 :: u14 :: u15 :: .pointer (some ⟨p, 0, none⟩) :: pkV q :: .bool false :: .bool false :: .pointer (some ⟨b3, 0, none⟩) :: .int .i64 q.k :: u22 :: u23 :: u24 :: u25 :: u26 :: u27 :: u28 :: u29 :: u30 :: u31 :: u32 :: u33 :: u34 :: u35 :: []).toArray, []⟩ ?_
        refine WL.run (some 22) rfl (.bool true) w1 (ev_eqcT 21 5 (by kernel_rfl) (by kernel_rfl) hk) ⟨(.pointer (some ⟨p, 0, none⟩) :: u1 :: u2 :: .pointer (some ⟨b3, 0, none⟩) :: u4 :: u5 :: u6 :: u7 :: u8 :: u9 :: u10 :: u11 :: u12 :: u13 :: u14 :: u15 :: .pointer (some ⟨p, 0, none⟩) :: pkV q :: .bool false :: .bool false :: .pointer (some ⟨b3, 0, none⟩) :: .int .i64 q.k :: .bool true :: u23 :: u24 :: u25 :: u26 :: u27 :: u28 :: u29 :: u30 :: u31 :: u32 :: u33 :: u34 :: u35 :: []).toArray, []⟩ ?_
        refine WL.run (some 23) rfl (.bool true) w1 (by as_aux_lemma => kernel_rfl) ⟨(.pointer (some ⟨p, 0, none⟩) :: u1 :: u2 :: .pointer (some ⟨b3, 0, none⟩) :: u4 :: u5 :: u6 :: u7 :: u8 :: u9 :: u10 :: u11 :: u12 :: u13 :: u14 :: u15 :: .pointer (some ⟨p, 0, none⟩) :: pkV q :: .bool false :: .bool false :: .pointer (some ⟨b3, 0, none⟩) :: .int .i64 q.k :: .bool true :: .bool true :: u24 :: u25 :: u26 :: u27 :: u28 :: u29 :: u30 :: u31 :: u32 :: u33 :: u34 :: u35 :: []).toArray, []⟩ ?_
        refine WL.run (some 24) rfl (.pointer (some ⟨p, 0, none⟩)) w1 (by as_aux_lemma => kernel_rfl) ⟨(.pointer (some ⟨p, 0, none⟩) :: u1 :: u2 :: .pointer (some ⟨b3, 0, none⟩) :: u4 :: u5 :: u6 :: u7 :: u8 :: u9 :: u10 :: u11 :: u12 :: u13 :: u14 :: u15 :: .pointer (some ⟨p, 0, none⟩) :: pkV q :: .bool false :: .bool false :: .pointer (some ⟨b3, 0, none⟩) :: .int .i64 q.k :: .bool true :: .bool true :: .pointer (some ⟨p, 0, none⟩) :: u25 :: u26 :: u27 :: u28 :: u29 :: u30 :: u31 :: u32 :: u33 :: u34 :: u35 :: []).toArray, []⟩ ?_
        refine WL.run (some 25) rfl (pkV q) w1 (ev_load 66 3 (.pointer (some ⟨b3, 0, none⟩)) (pkV q) rfl (by kernel_rfl) (ld66 (HL.out w1 F1))) ⟨(.pointer (some ⟨p, 0, none⟩) :: u1 :: u2 :: .pointer (some ⟨b3, 0, none⟩) :: u4 :: u5 :: u6 :: u7 :: u8 :: u9 :: u10 :: u11 :: u12 :: u13 :: u14 :: u15 :: .pointer (some ⟨p, 0, none⟩) :: pkV q :: .bool false :: .bool false :: .pointer (some ⟨b3, 0, none⟩) :: .int .i64 q.k :: .bool true :: .bool true :: .pointer (some ⟨p, 0, none⟩) :: pkV q :: u26 :: u27 :: u28 :: u29 :: u30 :: u31 :: u32 :: u33 :: u34 :: u35 :: []).toArray, []⟩ ?_
        refine WL.call (some 26) rfl 48 _ (.bool false) (by kernel_rfl) ((C4.out w1 F1)) ⟨(.pointer (some ⟨p, 0, none⟩) :: u1 :: u2 :: .pointer (some ⟨b3, 0, none⟩) :: u4 :: u5 :: u6 :: u7 :: u8 :: u9 :: u10 :: u11 :: u12 :: u13 :: u14 :: u15 :: .pointer (some ⟨p, 0, none⟩) :: pkV q :: .bool false :: .bool false :: .pointer (some ⟨b3, 0, none⟩) :: .int .i64 q.k :: .bool true :: .bool true :: .pointer (some ⟨p, 0, none⟩) :: pkV q :: .bool false :: u27 :: u28 :: u29 :: u30 :: u31 :: u32 :: u33 :: u34 :: u35 :: []).toArray, []⟩ ?_
        rintro w2 F2
        refine WL.run (some 27) rfl (.bool false) w2 (ev_pickT 23 (.tmp 26) (.const (.bool false)) _ rfl (by kernel_rfl) (by kernel_rfl)) ⟨(.pointer (some ⟨p, 0, none⟩) :: u1 :: u2 :: .pointer (some ⟨b3, 0, none⟩) :: u4 :: u5 :: u6 :: u7 :: u8 :: u9 :: u10 :: u11 :: u12 :: u13 :: u14 :: u15 :: .pointer (some ⟨p, 0, none⟩) :: pkV q :: .bool false :: .bool false :: .pointer (some ⟨b3, 0, none⟩) :: .int .i64 q.k :: .bool true :: .bool true :: .pointer (some ⟨p, 0, none⟩) :: pkV q :: .bool false :: .bool false :: u28 :: u29 :: u30 :: u31 :: u32 :: u33 :: u34 :: u35 :: []).toArray, []⟩ ?_
        refine WL.run (some 28) rfl (.bool false) w2 (ev_pickF 19 (.const (.bool true)) (.tmp 27) _ rfl (by kernel_rfl) (by kernel_rfl)) ⟨(.pointer (some ⟨p, 0, none⟩) :: u1 :: u2 :: .pointer (some ⟨b3, 0, none⟩) :: u4 :: u5 :: u6 :: u7 :: u8 :: u9 :: u10 :: u11 :: u12 :: u13 :: u14 :: u15 :: .pointer (some ⟨p, 0, none⟩) :: pkV q :: .bool false :: .bool false :: .pointer (some ⟨b3, 0, none⟩) :: .int .i64 q.k :: .bool true :: .bool true :: .pointer (some ⟨p, 0, none⟩) :: pkV q :: .bool false :: .bool false :: .bool false :: u29 :: u30 :: u31 :: u32 :: u33 :: u34 :: u35 :: []).toArray, []⟩ ?_
        refine WL.nil ?_
        show K _ _
        refine K_frame (a2 := ⟨(.pointer (some ⟨p, 0, none⟩) :: u1 :: u2 :: .pointer (some ⟨b3, 0, none⟩) :: u4 :: u5 :: u6 :: u7 :: u8 :: u9 :: u10 :: u11 :: u12 :: u13 :: u14 :: u15 :: .pointer (some ⟨p, 0, none⟩) :: pkV q :: .bool false :: .bool false :: (.pointer (some ⟨b3, 0, none⟩)) :: (.int .i64 q.k) :: (.bool true) :: (.bool true) :: (.pointer (some ⟨p, 0, none⟩)) :: (pkV q) :: (.bool false) :: (.bool false) :: .bool false :: u29 :: u30 :: u31 :: u32 :: u33 :: u34 :: u35 :: []).toArray, []⟩) (by kernel_rfl) ?_
        have := HQ.out _ (.pointer (some ⟨b3, 0, none⟩)) (.int .i64 q.k) (.bool true) (.bool true) (.pointer (some ⟨p, 0, none⟩)) (pkV q) (.bool false) (.bool false) (F1.and F2)
        rwa [decide_eq_true hk, Bool.false_or, Bool.true_and] at this
      · refine WL.run (some 16) rfl (.pointer (some ⟨p, 0, none⟩)) W (by as_aux_lemma => kernel_rfl) ⟨(.pointer (some ⟨p, 0, none⟩) :: u1 :: u2 :: .pointer (some ⟨b3, 0, none⟩) :: u4 :: u5 :: u6 :: u7 :: u8 :: u9 :: u10 :: u11 :: u12 :: u13 :: u14 :: u15 :: .pointer (some ⟨p, 0, none⟩) :: u17 :: u18 :: u19 :: u20 :: u21 :: u22 :: u23 :: u24 :: u25 :: u26 :: u27 :: u28 :: u29 :: u30 :: u31 :: u32 :: u33 :: u34 :: u35 :: []).toArray, []⟩ ?_
        refine WL.run (some 17) rfl (pkV q) W (ev_load 66 3 (.pointer (some ⟨b3, 0, none⟩)) (pkV q) rfl (by kernel_rfl) (ld66 (HL.out W (Fr.refl no W)))) ⟨(.pointer (some ⟨p, 0, none⟩) :: u1 :: u2 :: .pointer (some ⟨b3, 0, none⟩) :: u4 :: u5 :: u6 :: u7 :: u8 :: u9 :: u10 :: u11 :: u12 :: u13 :: u14 :: u15 :: .pointer (some ⟨p, 0, none⟩) :: pkV q :: u18 :: u19 :: u20 :: u21 :: u22 :: u23 :: u24 :: u25 :: u26 :: u27 :: u28 :: u29 :: u30 :: u31 :: u32 :: u33 :: u34 :: u35 :: []).toArray, []⟩ ?_
        refine WL.call (some 18) rfl 48 _ (.bool false) (by kernel_rfl) (C5.out) ⟨(.pointer (some ⟨p, 0, none⟩) :: u1 :: u2 :: .pointer (some ⟨b3, 0, none⟩) :: u4 :: u5 :: u6 :: u7 :: u8 :: u9 :: u10 :: u11 :: u12 :: u13 :: u14 :: u15 :: .pointer (some ⟨p, 0, none⟩) :: pkV q :: .bool false :: u19 :: u20 :: u21 :: u22 :: u23 :: u24 :: u25 :: u26 :: u27 :: u28 :: u29 :: u30 :: u31 :: u32 :: u33 :: u34 :: u35 :: []).toArray, []⟩ ?_
        rintro w1 F1
        refine WL.run (some 19) rfl (.bool false) w1 (by as_aux_lemma => kernel_rfl) ⟨(.pointer (some ⟨p, 0, none⟩) :: u1 :: u2 :: .pointer (some ⟨b3, 0, none⟩) :: u4 :: u5 :: u6 :: u7 :: u8 :: u9 :: u10 :: u11 :: u12 :: u13 :: u14 :: u15 :: .pointer (some ⟨p, 0, none⟩) :: pkV q :: .bool false :: .bool false :: u20 :: u21 :: u22 :: u23 :: u24 :: u25 :: u26 :: u27 :: u28 :: u29 :: u30 :: u31 :: u32 :: u33 :: u34 :: u35 :: []).toArray, []⟩ ?_
        refine WL.run (some 20) rfl (.pointer (some ⟨b3, 0, none⟩)) w1 (by as_aux_lemma => kernel_rfl) ⟨(.pointer (some ⟨p, 0, none⟩) :: u1 :: u2 :: .pointer (some ⟨b3, 0, none⟩) :: u4 :: u5 :: u6 :: u7 :: u8 :: u9 :: u10 :: u11 :: u12 :: u13 :: u14 :: u15 :: .pointer (some ⟨p, 0, none⟩) :: pkV q :: .bool false :: .bool false :: .pointer (some ⟨b3, 0, none⟩) :: u21 :: u22 :: u23 :: u24 :: u25 :: u26 :: u27 :: u28 :: u29 :: u30 :: u31 :: u32 :: u33 :: u34 :: u35 :: []).toArray, []⟩ ?_
        refine WL.run (some 21) rfl (.int .i64 q.k) w1 (ev_load 3 20 (.pointer (some ⟨b3, 0, none⟩)) (.int .i64 q.k) rfl (by kernel_rfl) (ld3 (cells4 (HL.out w1 F1)).1)) ⟨(.pointer (some ⟨p, 0, none⟩) :: u1 :: u2 :: .pointer (some ⟨b3, 0, none⟩) :: u4 :: u5 :: u6 :: u7 :: u8 :: u9 :: u10 :: u11 :: u12 :: u13 :: u14 :: u15 :: .pointer (some ⟨p, 0, none⟩) :: pkV q :: .bool false :: .bool false :: .pointer (some ⟨b3, 0, none⟩) :: .int .i64 q.k :: u22 :: u23 :: u24 :: u25 :: u26 :: u27 :: u28 :: u29 :: u30 :: u31 :: u32 :: u33 :: u34 :: u35 :: []).toArray, []⟩ ?_
        refine WL.run (some 22) rfl (.bool true) w1 (ev_eqcT 21 5 (by kernel_rfl) (by kernel_rfl) hk) ⟨(.pointer (some ⟨p, 0, none⟩) :: u1 :: u2 :: .pointer (some ⟨b3, 0, none⟩) :: u4 :: u5 :: u6 :: u7 :: u8 :: u9 :: u10 :: u11 :: u12 :: u13 :: u14 :: u15 :: .pointer (some ⟨p, 0, none⟩) :: pkV q :: .bool false :: .bool false :: .pointer (some ⟨b3, 0, none⟩) :: .int .i64 q.k :: .bool true :: u23 :: u24 :: u25 :: u26 :: u27 :: u28 :: u29 :: u30 :: u31 :: u32 :: u33 :: u34 :: u35 :: []).toArray, []⟩ ?_
        refine WL.run (some 23) rfl (.bool true) w1 (by as_aux_lemma => kernel_rfl) ⟨(.pointer (some ⟨p, 0, none⟩) :: u1 :: u2 :: .pointer (some ⟨b3, 0, none⟩) :: u4 :: u5 :: u6 :: u7 :: u8 :: u9 :: u10 :: u11 :: u12 :: u13 :: u14 :: u15 :: .pointer (some ⟨p, 0, none⟩) :: pkV q :: .bool false :: .bool false :: .pointer (some ⟨b3, 0, none⟩) :: .int .i64 q.k :: .bool true :: .bool true :: u24 :: u25 :: u26 :: u27 :: u28 :: u29 :: u30 :: u31 :: u32 :: u33 :: u34 :: u35 :: []).toArray, []⟩ ?_
        refine WL.run (some 24) rfl (.pointer (some ⟨p, 0, none⟩)) w1 (by as_aux_lemma => kernel_rfl) ⟨(.pointer (some ⟨p, 0, none⟩) :: u1 :: u2 :: .pointer (some ⟨b3, 0, none⟩) :: u4 :: u5 :: u6 :: u7 :: u8 :: u9 :: u10 :: u11 :: u12 :: u13 :: u14 :: u15 :: .pointer (some ⟨p, 0, none⟩) :: pkV q :: .bool false :: .bool false :: .pointer (some ⟨b3, 0, none⟩) :: .int .i64 q.k :: .bool true :: .bool true :: .pointer (some ⟨p, 0, none⟩) :: u25 :: u26 :: u27 :: u28 :: u29 :: u30 :: u31 :: u32 :: u33 :: u34 :: u35 :: []).toArray, []⟩ ?_
        refine WL.run (some 25) rfl (pkV q) w1 (ev_load 66 3 (.pointer (some ⟨b3, 0, none⟩)) (pkV q) rfl (by kernel_rfl) (ld66 (HL.out w1 F1))) ⟨(.pointer (some ⟨p, 0, none⟩) :: u1 :: u2 :: .pointer (some ⟨b3, 0, none⟩) :: u4 :: u5 :: u6 :: u7 :: u8 :: u9 :: u10 :: u11 :: u12 :: u13 :: u14 :: u15 :: .pointer (some ⟨p, 0, none⟩) :: pkV q :: .bool false :: .bool false :: .pointer (some ⟨b3, 0, none⟩) :: .int .i64 q.k :: .bool true :: .bool true :: .pointer (some ⟨p, 0, none⟩) :: pkV q :: u26 :: u27 :: u28 :: u29 :: u30 :: u31 :: u32 :: u33 :: u34 :: u35 :: []).toArray, []⟩ ?_
        refine WL.call (some 26) rfl 48 _ (.bool true) (by kernel_rfl) ((C4.out w1 F1)) ⟨(.pointer (some ⟨p, 0, none⟩) :: u1 :: u2 :: .pointer (some ⟨b3, 0, none⟩) :: u4 :: u5 :: u6 :: u7 :: u8 :: u9 :: u10 :: u11 :: u12 :: u13 :: u14 :: u15 :: .pointer (some ⟨p, 0, none⟩) :: pkV q :: .bool false :: .bool false :: .pointer (some ⟨b3, 0, none⟩) :: .int .i64 q.k :: .bool true :: .bool true :: .pointer (some ⟨p, 0, none⟩) :: pkV q :: .bool true :: u27 :: u28 :: u29 :: u30 :: u31 :: u32 :: u33 :: u34 :: u35 :: []).toArray, []⟩ ?_
        rintro w2 F2
        refine WL.run (some 27) rfl (.bool true) w2 (ev_pickT 23 (.tmp 26) (.const (.bool false)) _ rfl (by kernel_rfl) (by kernel_rfl)) ⟨(.pointer (some ⟨p, 0, none⟩) :: u1 :: u2 :: .pointer (some ⟨b3, 0, none⟩) :: u4 :: u5 :: u6 :: u7 :: u8 :: u9 :: u10 :: u11 :: u12 :: u13 :: u14 :: u15 :: .pointer (some ⟨p, 0, none⟩) :: pkV q :: .bool false :: .bool false :: .pointer (some ⟨b3, 0, none⟩) :: .int .i64 q.k :: .bool true :: .bool true :: .pointer (some ⟨p, 0, none⟩) :: pkV q :: .bool true :: .bool true :: u28 :: u29 :: u30 :: u31 :: u32 :: u33 :: u34 :: u35 :: []).toArray, []⟩ ?_
        refine WL.run (some 28) rfl (.bool true) w2 (ev_pickF 19 (.const (.bool true)) (.tmp 27) _ rfl (by kernel_rfl) (by kernel_rfl)) ⟨(.pointer (some ⟨p, 0, none⟩) :: u1 :: u2 :: .pointer (some ⟨b3, 0, none⟩) :: u4 :: u5 :: u6 :: u7 :: u8 :: u9 :: u10 :: u11 :: u12 :: u13 :: u14 :: u15 :: .pointer (some ⟨p, 0, none⟩) :: pkV q :: .bool false :: .bool false :: .pointer (some ⟨b3, 0, none⟩) :: .int .i64 q.k :: .bool true :: .bool true :: .pointer (some ⟨p, 0, none⟩) :: pkV q :: .bool true :: .bool true :: .bool true :: u29 :: u30 :: u31 :: u32 :: u33 :: u34 :: u35 :: []).toArray, []⟩ ?_
        refine WL.nil ?_
        show K _ _
        refine K_frame (a2 := ⟨(.pointer (some ⟨p, 0, none⟩) :: u1 :: u2 :: .pointer (some ⟨b3, 0, none⟩) :: u4 :: u5 :: u6 :: u7 :: u8 :: u9 :: u10 :: u11 :: u12 :: u13 :: u14 :: u15 :: .pointer (some ⟨p, 0, none⟩) :: pkV q :: .bool false :: .bool false :: (.pointer (some ⟨b3, 0, none⟩)) :: (.int .i64 q.k) :: (.bool true) :: (.bool true) :: (.pointer (some ⟨p, 0, none⟩)) :: (pkV q) :: (.bool true) :: (.bool true) :: .bool true :: u29 :: u30 :: u31 :: u32 :: u33 :: u34 :: u35 :: []).toArray, []⟩) (by kernel_rfl) ?_
        have := HQ.out _ (.pointer (some ⟨b3, 0, none⟩)) (.int .i64 q.k) (.bool true) (.bool true) (.pointer (some ⟨p, 0, none⟩)) (pkV q) (.bool true) (.bool true) (F1.and F2)
        rwa [decide_eq_true hk, Bool.false_or, Bool.true_and] at this
    · refine WL.run (some 16) rfl (.pointer (some ⟨p, 0, none⟩)) W (by as_aux_lemma => kernel_rfl) ⟨(.pointer (some ⟨p, 0, none⟩) :: u1 :: u2 :: .pointer (some ⟨b3, 0, none⟩) :: u4 :: u5 :: u6 :: u7 :: u8 :: u9 :: u10 :: u11 :: u12 :: u13 :: u14 :: u15 :: .pointer (some ⟨p, 0, none⟩) :: u17 :: u18 :: u19 :: u20 :: u21 :: u22 :: u23 :: u24 :: u25 :: u26 :: u27 :: u28 :: u29 :: u30 :: u31 :: u32 :: u33 :: u34 :: u35 :: []).toArray, []⟩ ?_
      refine WL.run (some 17) rfl (pkV q) W (ev_load 66 3 (.pointer (some ⟨b3, 0, none⟩)) (pkV q) rfl (by kernel_rfl) (ld66 (HL.out W (Fr.refl no W)))) ⟨(.pointer (some ⟨p, 0, none⟩) :: u1 :: u2 :: .pointer (some ⟨b3, 0, none⟩) :: u4 :: u5 :: u6 :: u7 :: u8 :: u9 :: u10 :: u11 :: u12 :: u13 :: u14 :: u15 :: .pointer (some ⟨p, 0, none⟩) :: pkV q :: u18 :: u19 :: u20 :: u21 :: u22 :: u23 :: u24 :: u25 :: u26 :: u27 :: u28 :: u29 :: u30 :: u31 :: u32 :: u33 :: u34 :: u35 :: []).toArray, []⟩ ?_
      refine WL.call (some 18) rfl 48 _ (.bool false) (by kernel_rfl) (C5.out) ⟨(.pointer (some ⟨p, 0, none⟩) :: u1 :: u2 :: .pointer (some ⟨b3, 0, none⟩) :: u4 :: u5 :: u6 :: u7 :: u8 :: u9 :: u10 :: u11 :: u12 :: u13 :: u14 :: u15 :: .pointer (some ⟨p, 0, none⟩) :: pkV q :: .bool false :: u19 :: u20 :: u21 :: u22 :: u23 :: u24 :: u25 :: u26 :: u27 :: u28 :: u29 :: u30 :: u31 :: u32 :: u33 :: u34 :: u35 :: []).toArray, []⟩ ?_
      rintro w1 F1
      refine WL.run (some 19) rfl (.bool false) w1 (by as_aux_lemma => kernel_rfl) ⟨(.pointer (some ⟨p, 0, none⟩) :: u1 :: u2 :: .pointer (some ⟨b3, 0, none⟩) :: u4 :: u5 :: u6 :: u7 :: u8 :: u9 :: u10 :: u11 :: u12 :: u13 :: u14 :: u15 :: .pointer (some ⟨p, 0, none⟩) :: pkV q :: .bool false :: .bool false :: u20 :: u21 :: u22 :: u23 :: u24 :: u25 :: u26 :: u27 :: u28 :: u29 :: u30 :: u31 :: u32 :: u33 :: u34 :: u35 :: []).toArray, []⟩ ?_
      refine WL.run (some 20) rfl (.pointer (some ⟨b3, 0, none⟩)) w1 (by as_aux_lemma => kernel_rfl) ⟨(.pointer (some ⟨p, 0, none⟩) :: u1 :: u2 :: .pointer (some ⟨b3, 0, none⟩) :: u4 :: u5 :: u6 :: u7 :: u8 :: u9 :: u10 :: u11 :: u12 :: u13 :: u14 :: u15 :: .pointer (some ⟨p, 0, none⟩) :: pkV q :: .bool false :: .bool false :: .pointer (some ⟨b3, 0, none⟩) :: u21 :: u22 :: u23 :: u24 :: u25 :: u26 :: u27 :: u28 :: u29 :: u30 :: u31 :: u32 :: u33 :: u34 :: u35 :: []).toArray, []⟩ ?_
      refine WL.run (some 21) rfl (.int .i64 q.k) w1 (ev_load 3 20 (.pointer (some ⟨b3, 0, none⟩)) (.int .i64 q.k) rfl (by kernel_rfl) (ld3 (cells4 (HL.out w1 F1)).1)) ⟨(.pointer (some ⟨p, 0, none⟩) :: u1 :: u2 :: .pointer (some ⟨b3, 0, none⟩) :: u4 :: u5 :: u6 :: u7 :: u8 :: u9 :: u10 :: u11 :: u12 :: u13 :: u14 :: u15 :: .pointer (some ⟨p, 0, none⟩) :: pkV q :: .bool false :: .bool false :: .pointer (some ⟨b3, 0, none⟩) :: .int .i64 q.k :: u22 :: u23 :: u24 :: u25 :: u26 :: u27 :: u28 :: u29 :: u30 :: u31 :: u32 :: u33 :: u34 :: u35 :: []).toArray, []⟩ ?_
      refine WL.run (some 22) rfl (.bool false) w1 (ev_eqcF 21 5 q.k hk (by kernel_rfl) (by kernel_rfl)) ⟨(.pointer (some ⟨p, 0, none⟩) :: u1 :: u2 :: .pointer (some ⟨b3, 0, none⟩) :: u4 :: u5 :: u6 :: u7 :: u8 :: u9 :: u10 :: u11 :: u12 :: u13 :: u14 :: u15 :: .pointer (some ⟨p, 0, none⟩) :: pkV q :: .bool false :: .bool false :: .pointer (some ⟨b3, 0, none⟩) :: .int .i64 q.k :: .bool false :: u23 :: u24 :: u25 :: u26 :: u27 :: u28 :: u29 :: u30 :: u31 :: u32 :: u33 :: u34 :: u35 :: []).toArray, []⟩ ?_
      refine WL.run (some 23) rfl (.bool false) w1 (by as_aux_lemma => kernel_rfl) ⟨(.pointer (some ⟨p, 0, none⟩) :: u1 :: u2 :: .pointer (some ⟨b3, 0, none⟩) :: u4 :: u5 :: u6 :: u7 :: u8 :: u9 :: u10 :: u11 :: u12 :: u13 :: u14 :: u15 :: .pointer (some ⟨p, 0, none⟩) :: pkV q :: .bool false :: .bool false :: .pointer (some ⟨b3, 0, none⟩) :: .int .i64 q.k :: .bool false :: .bool false :: u24 :: u25 :: u26 :: u27 :: u28 :: u29 :: u30 :: u31 :: u32 :: u33 :: u34 :: u35 :: []).toArray, []⟩ ?_
      refine WL.skip (some 24) rfl ⟨(.pointer (some ⟨p, 0, none⟩) :: u1 :: u2 :: .pointer (some ⟨b3, 0, none⟩) :: u4 :: u5 :: u6 :: u7 :: u8 :: u9 :: u10 :: u11 :: u12 :: u13 :: u14 :: u15 :: .pointer (some ⟨p, 0, none⟩) :: pkV q :: .bool false :: .bool false :: .pointer (some ⟨b3, 0, none⟩) :: .int .i64 q.k :: .bool false :: .bool false :: undef :: u25 :: u26 :: u27 :: u28 :: u29 :: u30 :: u31 :: u32 :: u33 :: u34 :: u35 :: []).toArray, []⟩ ?_
      refine WL.skip (some 25) rfl ⟨(.pointer (some ⟨p, 0, none⟩) :: u1 :: u2 :: .pointer (some ⟨b3, 0, none⟩) :: u4 :: u5 :: u6 :: u7 :: u8 :: u9 :: u10 :: u11 :: u12 :: u13 :: u14 :: u15 :: .pointer (some ⟨p, 0, none⟩) :: pkV q :: .bool false :: .bool false :: .pointer (some ⟨b3, 0, none⟩) :: .int .i64 q.k :: .bool false :: .bool false :: undef :: undef :: u26 :: u27 :: u28 :: u29 :: u30 :: u31 :: u32 :: u33 :: u34 :: u35 :: []).toArray, []⟩ ?_
      refine WL.skip (some 26) rfl ⟨(.pointer (some ⟨p, 0, none⟩) :: u1 :: u2 :: .pointer (some ⟨b3, 0, none⟩) :: u4 :: u5 :: u6 :: u7 :: u8 :: u9 :: u10 :: u11 :: u12 :: u13 :: u14 :: u15 :: .pointer (some ⟨p, 0, none⟩) :: pkV q :: .bool false :: .bool false :: .pointer (some ⟨b3, 0, none⟩) :: .int .i64 q.k :: .bool false :: .bool false :: undef :: undef :: undef :: u27 :: u28 :: u29 :: u30 :: u31 :: u32 :: u33 :: u34 :: u35 :: []).toArray, []⟩ ?_
      refine WL.run (some 27) rfl (.bool false) w1 (ev_pickF 23 (.tmp 26) (.const (.bool false)) _ rfl (by kernel_rfl) (by kernel_rfl)) ⟨(.pointer (some ⟨p, 0, none⟩) :: u1 :: u2 :: .pointer (some ⟨b3, 0, none⟩) :: u4 :: u5 :: u6 :: u7 :: u8 :: u9 :: u10 :: u11 :: u12 :: u13 :: u14 :: u15 :: .pointer (some ⟨p, 0, none⟩) :: pkV q :: .bool false :: .bool false :: .pointer (some ⟨b3, 0, none⟩) :: .int .i64 q.k :: .bool false :: .bool false :: undef :: undef :: undef :: .bool false :: u28 :: u29 :: u30 :: u31 :: u32 :: u33 :: u34 :: u35 :: []).toArray, []⟩ ?_
      refine WL.run (some 28) rfl (.bool false) w1 (ev_pickF 19 (.const (.bool true)) (.tmp 27) _ rfl (by kernel_rfl) (by kernel_rfl)) ⟨(.pointer (some ⟨p, 0, none⟩) :: u1 :: u2 :: .pointer (some ⟨b3, 0, none⟩) :: u4 :: u5 :: u6 :: u7 :: u8 :: u9 :: u10 :: u11 :: u12 :: u13 :: u14 :: u15 :: .pointer (some ⟨p, 0, none⟩) :: pkV q :: .bool false :: .bool false :: .pointer (some ⟨b3, 0, none⟩) :: .int .i64 q.k :: .bool false :: .bool false :: undef :: undef :: undef :: .bool false :: .bool false :: u29 :: u30 :: u31 :: u32 :: u33 :: u34 :: u35 :: []).toArray, []⟩ ?_
      refine WL.nil ?_
      show K _ _
      refine K_frame (a2 := ⟨(.pointer (some ⟨p, 0, none⟩) :: u1 :: u2 :: .pointer (some ⟨b3, 0, none⟩) :: u4 :: u5 :: u6 :: u7 :: u8 :: u9 :: u10 :: u11 :: u12 :: u13 :: u14 :: u15 :: .pointer (some ⟨p, 0, none⟩) :: pkV q :: .bool false :: .bool false :: (.pointer (some ⟨b3, 0, none⟩)) :: (.int .i64 q.k) :: (.bool false) :: (.bool false) :: undef :: undef :: undef :: (.bool false) :: .bool false :: u29 :: u30 :: u31 :: u32 :: u33 :: u34 :: u35 :: []).toArray, []⟩) (by kernel_rfl) ?_
      have := HQ.out _ (.pointer (some ⟨b3, 0, none⟩)) (.int .i64 q.k) (.bool false) (.bool false) undef undef undef (.bool false) F1
      rwa [decide_eq_false hk, Bool.false_and, Bool.false_or] at this
  · refine WL.run (some 16) rfl (.pointer (some ⟨p, 0, none⟩)) W (by as_aux_lemma => kernel_rfl) ⟨(.pointer (some ⟨p, 0, none⟩) :: u1 :: u2 :: .pointer (some ⟨b3, 0, none⟩) :: u4 :: u5 :: u6 :: u7 :: u8 :: u9 :: u10 :: u11 :: u12 :: u13 :: u14 :: u15 :: .pointer (some ⟨p, 0, none⟩) :: u17 :: u18 :: u19 :: u20 :: u21 :: u22 :: u23 :: u24 :: u25 :: u26 :: u27 :: u28 :: u29 :: u30 :: u31 :: u32 :: u33 :: u34 :: u35 :: []).toArray, []⟩ ?_
    refine WL.run (some 17) rfl (pkV q) W (ev_load 66 3 (.pointer (some ⟨b3, 0, none⟩)) (pkV q) rfl (by kernel_rfl) (ld66 (HL.out W (Fr.refl no W)))) ⟨(.pointer (some ⟨p, 0, none⟩) :: u1 :: u2 :: .pointer (some ⟨b3, 0, none⟩) :: u4 :: u5 :: u6 :: u7 :: u8 :: u9 :: u10 :: u11 :: u12 :: u13 :: u14 :: u15 :: .pointer (some ⟨p, 0, none⟩) :: pkV q :: u18 :: u19 :: u20 :: u21 :: u22 :: u23 :: u24 :: u25 :: u26 :: u27 :: u28 :: u29 :: u30 :: u31 :: u32 :: u33 :: u34 :: u35 :: []).toArray, []⟩ ?_
    refine WL.call (some 18) rfl 48 _ (.bool true) (by kernel_rfl) (C5.out) ⟨(.pointer (some ⟨p, 0, none⟩) :: u1 :: u2 :: .pointer (some ⟨b3, 0, none⟩) :: u4 :: u5 :: u6 :: u7 :: u8 :: u9 :: u10 :: u11 :: u12 :: u13 :: u14 :: u15 :: .pointer (some ⟨p, 0, none⟩) :: pkV q :: .bool true :: u19 :: u20 :: u21 :: u22 :: u23 :: u24 :: u25 :: u26 :: u27 :: u28 :: u29 :: u30 :: u31 :: u32 :: u33 :: u34 :: u35 :: []).toArray, []⟩ ?_
    rintro w1 F1
    refine WL.run (some 19) rfl (.bool true) w1 (by as_aux_lemma => kernel_rfl) ⟨(.pointer (some ⟨p, 0, none⟩) :: u1 :: u2 :: .pointer (some ⟨b3, 0, none⟩) :: u4 :: u5 :: u6 :: u7 :: u8 :: u9 :: u10 :: u11 :: u12 :: u13 :: u14 :: u15 :: .pointer (some ⟨p, 0, none⟩) :: pkV q :: .bool true :: .bool true :: u20 :: u21 :: u22 :: u23 :: u24 :: u25 :: u26 :: u27 :: u28 :: u29 :: u30 :: u31 :: u32 :: u33 :: u34 :: u35 :: []).toArray, []⟩ ?_
    refine WL.skip (some 20) rfl ⟨(.pointer (some ⟨p, 0, none⟩) :: u1 :: u2 :: .pointer (some ⟨b3, 0, none⟩) :: u4 :: u5 :: u6 :: u7 :: u8 :: u9 :: u10 :: u11 :: u12 :: u13 :: u14 :: u15 :: .pointer (some ⟨p, 0, none⟩) :: pkV q :: .bool true :: .bool true :: undef :: u21 :: u22 :: u23 :: u24 :: u25 :: u26 :: u27 :: u28 :: u29 :: u30 :: u31 :: u32 :: u33 :: u34 :: u35 :: []).toArray, []⟩ ?_
    refine WL.skip (some 21) rfl ⟨(.pointer (some ⟨p, 0, none⟩) :: u1 :: u2 :: .pointer (some ⟨b3, 0, none⟩) :: u4 :: u5 :: u6 :: u7 :: u8 :: u9 :: u10 :: u11 :: u12 :: u13 :: u14 :: u15 :: .pointer (some ⟨p, 0, none⟩) :: pkV q :: .bool true :: .bool true :: undef :: undef :: u22 :: u23 :: u24 :: u25 :: u26 :: u27 :: u28 :: u29 :: u30 :: u31 :: u32 :: u33 :: u34 :: u35 :: []).toArray, []⟩ ?_
    refine WL.skip (some 22) rfl ⟨(.pointer (some ⟨p, 0, none⟩) :: u1 :: u2 :: .pointer (some ⟨b3, 0, none⟩) :: u4 :: u5 :: u6 :: u7 :: u8 :: u9 :: u10 :: u11 :: u12 :: u13 :: u14 :: u15 :: .pointer (some ⟨p, 0, none⟩) :: pkV q :: .bool true :: .bool true :: undef :: undef :: undef :: u23 :: u24 :: u25 :: u26 :: u27 :: u28 :: u29 :: u30 :: u31 :: u32 :: u33 :: u34 :: u35 :: []).toArray, []⟩ ?_
    refine WL.skip (some 23) rfl ⟨(.pointer (some ⟨p, 0, none⟩) :: u1 :: u2 :: .pointer (some ⟨b3, 0, none⟩) :: u4 :: u5 :: u6 :: u7 :: u8 :: u9 :: u10 :: u11 :: u12 :: u13 :: u14 :: u15 :: .pointer (some ⟨p, 0, none⟩) :: pkV q :: .bool true :: .bool true :: undef :: undef :: undef :: undef :: u24 :: u25 :: u26 :: u27 :: u28 :: u29 :: u30 :: u31 :: u32 :: u33 :: u34 :: u35 :: []).toArray, []⟩ ?_
    refine WL.skip (some 24) rfl ⟨(.pointer (some ⟨p, 0, none⟩) :: u1 :: u2 :: .pointer (some ⟨b3, 0, none⟩) :: u4 :: u5 :: u6 :: u7 :: u8 :: u9 :: u10 :: u11 :: u12 :: u13 :: u14 :: u15 :: .pointer (some ⟨p, 0, none⟩) :: pkV q :: .bool true :: .bool true :: undef :: undef :: undef :: undef :: undef :: u25 :: u26 :: u27 :: u28 :: u29 :: u30 :: u31 :: u32 :: u33 :: u34 :: u35 :: []).toArray, []⟩ ?_
    refine WL.skip (some 25) rfl ⟨(.pointer (some ⟨p, 0, none⟩) :: u1 :: u2 :: .pointer (some ⟨b3, 0, none⟩) :: u4 :: u5 :: u6 :: u7 :: u8 :: u9 :: u10 :: u11 :: u12 :: u13 :: u14 :: u15 :: .pointer (some ⟨p, 0, none⟩) :: pkV q :: .bool true :: .bool true :: undef :: undef :: undef :: undef :: undef :: undef :: u26 :: u27 :: u28 :: u29 :: u30 :: u31 :: u32 :: u33 :: u34 :: u35 :: []).toArray, []⟩ ?_
    refine WL.skip (some 26) rfl ⟨(.pointer (some ⟨p, 0, none⟩) :: u1 :: u2 :: .pointer (some ⟨b3, 0, none⟩) :: u4 :: u5 :: u6 :: u7 :: u8 :: u9 :: u10 :: u11 :: u12 :: u13 :: u14 :: u15 :: .pointer (some ⟨p, 0, none⟩) :: pkV q :: .bool true :: .bool true :: undef :: undef :: undef :: undef :: undef :: undef :: undef :: u27 :: u28 :: u29 :: u30 :: u31 :: u32 :: u33 :: u34 :: u35 :: []).toArray, []⟩ ?_
    refine WL.skip (some 27) rfl ⟨(.pointer (some ⟨p, 0, none⟩) :: u1 :: u2 :: .pointer (some ⟨b3, 0, none⟩) :: u4 :: u5 :: u6 :: u7 :: u8 :: u9 :: u10 :: u11 :: u12 :: u13 :: u14 :: u15 :: .pointer (some ⟨p, 0, none⟩) :: pkV q :: .bool true :: .bool true :: undef :: undef :: undef :: undef :: undef :: undef :: undef :: undef :: u28 :: u29 :: u30 :: u31 :: u32 :: u33 :: u34 :: u35 :: []).toArray, []⟩ ?_
    refine WL.run (some 28) rfl (.bool true) w1 (ev_pickT 19 (.const (.bool true)) (.tmp 27) _ rfl (by kernel_rfl) (by kernel_rfl)) ⟨(.pointer (some ⟨p, 0, none⟩) :: u1 :: u2 :: .pointer (some ⟨b3, 0, none⟩) :: u4 :: u5 :: u6 :: u7 :: u8 :: u9 :: u10 :: u11 :: u12 :: u13 :: u14 :: u15 :: .pointer (some ⟨p, 0, none⟩) :: pkV q :: .bool true :: .bool true :: undef :: undef :: undef :: undef :: undef :: undef :: undef :: undef :: .bool true :: u29 :: u30 :: u31 :: u32 :: u33 :: u34 :: u35 :: []).toArray, []⟩ ?_
    refine WL.nil ?_
    show K _ _
    refine K_frame (a2 := ⟨(.pointer (some ⟨p, 0, none⟩) :: u1 :: u2 :: .pointer (some ⟨b3, 0, none⟩) :: u4 :: u5 :: u6 :: u7 :: u8 :: u9 :: u10 :: u11 :: u12 :: u13 :: u14 :: u15 :: .pointer (some ⟨p, 0, none⟩) :: pkV q :: .bool true :: .bool true :: undef :: undef :: undef :: undef :: undef :: undef :: undef :: undef :: .bool true :: u29 :: u30 :: u31 :: u32 :: u33 :: u34 :: u35 :: []).toArray, []⟩) (by kernel_rfl) ?_
    have := HQ.out _ undef undef undef undef undef undef undef undef F1
    rwa [Bool.true_or] at this

set_option maxRecDepth 100000 in
set_option maxHeartbeats 1000000 in
theorem touch_any {c : Nat} (w : World) (p : Nat) (F : Cm) (n : Int) (hn : 0 ≤ n ∧ n ≤ 1000000) (k : Nat) (h : PW c w p F n k) (hk : k ≤ 1000) (q : Pk) (hq : q.Ok) :
    Calls Try.prog 42 #[.pointer (some ⟨p, 0, none⟩), pkV q] w fun e w' => e = .returned (.bool (touB F q)) ∧ PW c w' p (touF F q) (bumpR n (touB F q)) (k + 1) ∧ Fr (TW c w) w w' := by
  obtain ⟨W, b3, eW, e3, H3, F0⟩ := box1 w (pkL q).toArray 66
  have HP : Hid (PW c W p F n k) := h.keep F0
  have H0 : Hid (_ ∧ _) := ⟨eW, e3⟩
  have HH : Hid (_ ∧ _) := ⟨H3, F0⟩
  obtain ⟨d0, d1, d2, d3⟩ := cells4 H3
  have D1 : Hid _ := d1
  have lp := h.lt
  have hpb : p < b3 := by omega
  clear eW e3 H3 F0 h
  have IS := isT_any W q.t
  unfold pkL at H0
  cases h1 : isB q.t
  · have hF : touF F q = F := by unfold touF; rw [h1, if_neg Bool.false_ne_true]
    have hB : touB F q = false := by unfold touB; rw [h1]; rfl
    rw [hF, hB]
    rw [h1] at IS
    clear hF hB h1
    unfold pkV
    go_enter Try.func42, Try.ntmps42
    go_upto_region 1 with fail
    rw [H0.out.1, H0.out.2]
    clear H0
    go_wp2_with fail
    refine IS.mono ?_
    rintro _ w1 ⟨rfl, hw1⟩
    subst hw1
    have HX : Hid (_ ∧ _) := ⟨HP.out.up (Nat.le_succ k), HH.out.2.up (S := TW c w)⟩
    clear d0 d1 d2 d3
    go_wp2_with fail
    go_ret
    exact ⟨rfl, HX.out.1, HX.out.2⟩
  · obtain ⟨tn, htn, ht, ht0⟩ := isB_nat h1
    have HNOW : Hid (∀ w', PW c w' p F n k → Calls Try.prog 34 #[.pointer (some ⟨p, 0, none⟩), .int .i64 q.t] w' fun e w2 => e = .returned (ckV (nowP F tn)) ∧ Fr no w' w2) := fun w' h => by rw [htn]; exact now_any w' p F n k h tn ht0 ht
    have hF : touF F q = putP F q (nowP F tn) := by unfold touF; rw [h1, if_pos rfl, htn]; rfl
    have hB : touB F q = (unoB (putP F q (nowP F tn)) tn 5 q.a q.i || (decide (q.k = 5) && unoB (putP F q (nowP F tn)) tn 4 q.a q.i)) := by unfold touB; rw [hF, h1, htn]; rfl
    rw [hF, hB]
    rw [h1] at IS
    generalize hu5 : unoB (putP F q (nowP F tn)) tn 5 q.a q.i = u5
    generalize hu4 : unoB (putP F q (nowP F tn)) tn 4 q.a q.i = u4
    generalize hres : (u5 || (decide (q.k = 5) && u4)) = res
    have HRES : Hid ((u5 || (decide (q.k = 5) && u4)) = res) := hres
    have HU5 : Hid _ := hu5
    have HU4 : Hid _ := hu4
    clear hu5 hu4 hres
    have HQT : Hid _ := htn
    clear hF hB htn
    unfold pkV
    go_enter Try.func42, Try.ntmps42
    go_upto_region 1 with fail
    rw [H0.out.1, H0.out.2]
    clear H0
    go_wp2_with fail
    refine IS.mono ?_
    rintro _ w1 ⟨rfl, hw1⟩
    subst hw1
    have f0 : Fr no w1 w1.drew := (Fr.refl _ w1).drew
    clear IS d0 d2 d3
    go_upto_region 3 with fail
    clear d1
    refine late_begin (S := fun w' => Fr no w1 w') (g := 6) (by kernel_rfl) ?_
    refine lateP 0 (.pointer (some ⟨p, 0, none⟩)) rfl (fun _ => ev_move 0 _ rfl (by kernel_rfl)) (fun _ => f0) ?_
    refine lateP 2 (.pointer (some ⟨p, 0, none⟩)) rfl (fun _ => ev_move 0 _ rfl (by kernel_rfl)) (fun _ => f0) ?_
    refine lateP 3 (.pointer (some ⟨b3, 1, none⟩)) rfl (fun _ => ev_field 66 3 1 (.pointer (some ⟨b3, 0, none⟩)) _ rfl (by kernel_rfl) (by kernel_rfl)) (fun _ => f0) ?_
    refine lateN #[true, false, true, true, false, false, false] ⟨(.pointer (some ⟨p, 0, none⟩) :: .agg #[.int .i64 q.k, .int .i64 q.t, .int .i64 q.a, .int .i64 q.i] :: undef :: .pointer (some ⟨b3, 0, none⟩) :: .bool false :: .pointer (some ⟨b3, 1, none⟩) :: .int .i64 q.t :: .bool true :: .bool false :: .pointer (some ⟨p, 0, none⟩) :: undef :: .pointer (some ⟨p, 0, none⟩) :: .pointer (some ⟨b3, 1, none⟩) :: undef :: undef :: undef :: undef :: undef :: undef :: undef :: undef :: undef :: undef :: undef :: undef :: undef :: undef :: undef :: undef :: undef :: undef :: undef :: undef :: undef :: undef :: undef :: []).toArray, []⟩ ?_
    refine lateC 1 [] (pkV q) rfl (fun wz hz => ev_load 66 3 (.pointer (some ⟨b3, 0, none⟩)) (pkV q) rfl (by kernel_rfl) (ld66 (hz.heap HH.out.1 (fun x => x)))) f0 ?_
    refine lateN #[true, true, true, true, false, false, false] ⟨(.pointer (some ⟨p, 0, none⟩) :: .agg #[.int .i64 q.k, .int .i64 q.t, .int .i64 q.a, .int .i64 q.i] :: undef :: .pointer (some ⟨b3, 0, none⟩) :: .bool false :: .pointer (some ⟨b3, 1, none⟩) :: .int .i64 q.t :: .bool true :: .bool false :: .pointer (some ⟨p, 0, none⟩) :: pkV q :: .pointer (some ⟨p, 0, none⟩) :: .pointer (some ⟨b3, 1, none⟩) :: undef :: undef :: undef :: undef :: undef :: undef :: undef :: undef :: undef :: undef :: undef :: undef :: undef :: undef :: undef :: undef :: undef :: undef :: undef :: undef :: undef :: undef :: undef :: []).toArray, []⟩ ?_
    refine lateC 4 [5] (.int .i64 q.t) rfl (fun wz hz => ev_load 3 12 (.pointer (some ⟨b3, 1, none⟩)) (.int .i64 q.t) rfl (by kernel_rfl) (ld3 (hz.cell D1.out (fun x => x)))) f0 ?_
    refine lateN #[true, true, true, true, true, false, false] ⟨(.pointer (some ⟨p, 0, none⟩) :: .agg #[.int .i64 q.k, .int .i64 q.t, .int .i64 q.a, .int .i64 q.i] :: undef :: .pointer (some ⟨b3, 0, none⟩) :: .bool false :: .pointer (some ⟨b3, 1, none⟩) :: .int .i64 q.t :: .bool true :: .bool false :: .pointer (some ⟨p, 0, none⟩) :: pkV q :: .pointer (some ⟨p, 0, none⟩) :: .pointer (some ⟨b3, 1, none⟩) :: .int .i64 q.t :: undef :: undef :: undef :: undef :: undef :: undef :: undef :: undef :: undef :: undef :: undef :: undef :: undef :: undef :: undef :: undef :: undef :: undef :: undef :: undef :: undef :: undef :: []).toArray, []⟩ ?_
    refine late_all [5] (by kernel_rfl) (by simp) (fun jj hjj => ?_)
    simp only [List.mem_singleton] at hjj
    subst hjj
    refine late_call rfl rfl (by kernel_rfl) ((HNOW.out w1.drew (HP.out.keep f0)).mono fun e w' h => (⟨_, h.1, rfl, h.2⟩ : ∃ v, e = .returned v ∧ (v = ckV (nowP F tn) ∧ Fr no w1.drew w'))) ?_
    rintro v2 w2 ⟨rfl, F2⟩
    have f2 : Fr no w1 w2 := f0.and F2
    refine ⟨fun _ => f2, ?_⟩
    refine lateN #[true, true, true, true, true, true, false] ⟨(.pointer (some ⟨p, 0, none⟩) :: .agg #[.int .i64 q.k, .int .i64 q.t, .int .i64 q.a, .int .i64 q.i] :: undef :: .pointer (some ⟨b3, 0, none⟩) :: .bool false :: .pointer (some ⟨b3, 1, none⟩) :: .int .i64 q.t :: .bool true :: .bool false :: .pointer (some ⟨p, 0, none⟩) :: pkV q :: .pointer (some ⟨p, 0, none⟩) :: .pointer (some ⟨b3, 1, none⟩) :: .int .i64 q.t :: ckV (nowP F tn) :: undef :: undef :: undef :: undef :: undef :: undef :: undef :: undef :: undef :: undef :: undef :: undef :: undef :: undef :: undef :: undef :: undef :: undef :: undef :: undef :: undef :: []).toArray, []⟩ ?_
    refine late_all [6] (by kernel_rfl) (by simp) (fun jj hjj => ?_)
    simp only [List.mem_singleton] at hjj
    subst hjj
    refine late_call rfl rfl (by kernel_rfl) ((keep_any w2 p F n k (HP.out.keep f2) hk q hq (nowP F tn)).mono fun e w' h => (⟨_, h.1, rfl, h.2⟩ : ∃ v, e = .returned v ∧ (v = .tuple #[] ∧ _))) ?_
    rintro v2 w3 ⟨rfl, R3, F3⟩
    refine ⟨fun h => by simp at h, ?_⟩
    refine lateN #[true, true, true, true, true, true, true] ⟨(.pointer (some ⟨p, 0, none⟩) :: .agg #[.int .i64 q.k, .int .i64 q.t, .int .i64 q.a, .int .i64 q.i] :: undef :: .pointer (some ⟨b3, 0, none⟩) :: .bool false :: .pointer (some ⟨b3, 1, none⟩) :: .int .i64 q.t :: .bool true :: .bool false :: .pointer (some ⟨p, 0, none⟩) :: pkV q :: .pointer (some ⟨p, 0, none⟩) :: .pointer (some ⟨b3, 1, none⟩) :: .int .i64 q.t :: ckV (nowP F tn) :: .tuple #[] :: undef :: undef :: undef :: undef :: undef :: undef :: undef :: undef :: undef :: undef :: undef :: undef :: undef :: undef :: undef :: undef :: undef :: undef :: undef :: undef :: []).toArray, []⟩ ?_
    refine late_done (by kernel_rfl) ?_

    have HX : Hid (_ ∧ _) := ⟨R3, (((HH.out.2.and f2).up (S := TW c w)).tw F3)⟩
    have hb3 : w3.heap[b3]? = some (.cells (pkL q).toArray 66 (0, 0)) := by
      refine F3.heap (f2.heap HH.out.1 (fun x => x)) (fun e => ?_)
      have e2 := f2.heap HH.out.1 (fun x => x)
      unfold TW at e
      rw [e2] at e
      rcases e.2 with ⟨es, cl, e⟩ | ⟨cur, e⟩ <;> simp at e
    clear F3 f2 F2
    have U5 := unord_any w3 p _ n (k + 1) R3 q hq tn HQT.out ht0 ht 5 in_5
    have U4 := fun w' (f : Fr no w3 w') => unord_any w' p _ n (k + 1) (R3.keep f) q hq tn HQT.out ht0 ht 4 in_4
    clear R3
    have hl66 := ld66 hb3
    obtain ⟨d0, d1, d2, d3⟩ := cells4 hb3
    have HB3 : Hid _ := hb3
    clear hb3
    have fin : ∀ w4, Fr no w3 w4 → PW c (w4.setCell ⟨p, 1, none⟩ (.int .i64 (n + 1))) p (putP F q (nowP F tn)) (n + 1) (k + 1) ∧ Fr (TW c w) w (w4.setCell ⟨p, 1, none⟩ (.int .i64 (n + 1))) ∧ w4.cell? ⟨p, 1, none⟩ = some (.int .i64 n) ∧ ∀ o, w4.frozen? ⟨p, o, none⟩ = false := fun w4 f4 => by
      have R4 := HX.out.1.keep f4
      obtain ⟨v, -, c1, -, fz⟩ := R4.cells
      exact ⟨(R4.races (n + 1)).1, (HX.out.2.tw (f4.up (S := TW c w3))).tw (R4.races (n + 1)).2, c1, fz⟩
    have HFIN : Hid _ := fin
    clear fin
    have hn0 := hn.1
    have hn1 := hn.2
    rw [HU5.out] at U5
    have U4b := fun w' f => HU4.out ▸ U4 w' f
    clear U4
    have U4 := U4b
    clear U4b HU4 HU5
    rename_i K hK
    refine hK _ _ ?_
    refine wp_seq ?_
    try refine wp_seq ?_
    refine use_then ?_ (fun _ _ h => h)
    refine reg42 w3 p b3 q u5 u4 (fun w' f => f.heap HB3.out (fun x => x)) U5 U4 _ _ _ _ _ _ _ _ _ _ _ _ _ _ _ _ _ _ _ _ _ _ _ _ _ _ _ _ _ _ _ _ _ _ _ ?_
    intro w4 y20 y21 y22 y23 y24 y25 y26 y27 f4
    rw [HRES.out]
    have hf := HFIN.out w4 f4
    have HF4 : Hid _ := f4
    clear f4 U5 U4 hl66 d0 d1 d2 d3 hK
    show Exit.then _ _ Exit.normal _ _
    cases res
    · clear hf
      go_wp2_with fail
      go_ret
      exact ⟨rfl, HX.out.1.keep HF4.out, HX.out.2.tw (HF4.out.up (S := TW c w3))⟩
    · have c1 := hf.2.2.1
      have fz := hf.2.2.2
      have HF5 : Hid (_ ∧ _) := ⟨hf.1, hf.2.1⟩
      clear hf
      go_wp2_with fail
      go_ret
      exact ⟨rfl, HF5.out.1, HF5.out.2⟩
end Go.Proofs.Ytnineggppoipiaa
