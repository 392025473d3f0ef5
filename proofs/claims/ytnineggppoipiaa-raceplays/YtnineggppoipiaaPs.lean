/- The program's watch: whether another thread touched a word, unordered. -/
import Derived.Test.YtnineggppoipiaaPr
import Derived.Test.YtnineggppoipiaaRh
namespace Go.Proofs.Ytnineggppoipiaa
open Go.ChangeShapes Go.WideShapes Go.ChangeAt Go.RowKit

def unoP (F : Cm) (tn : Nat) (kd a i : Int) (t : Nat) : Bool := decide (t ≠ tn) && !beforeB (getP F ⟨kd, t, a, i⟩) (nowP F tn)
/-- Is there one of the others. -/
def unoB (F : Cm) (tn : Nat) (kd a i : Int) : Bool := (List.range 12).any fun j => unoP F tn kd a i (j + 1)
theorem uno_no {F : Cm} {tn : Nat} {kd a i : Int} (h : ∀ j, j < 12 → unoP F tn kd a i (j + 1) = false) : unoB F tn kd a i = false := by
  unfold unoB
  rw [List.any_eq_false]
  intro j hj
  rw [h j (by simpa using hj)]
  simp
theorem uno_yes {F : Cm} {tn : Nat} {kd a i : Int} {j : Nat} (hj : j < 12) (h : unoP F tn kd a i (j + 1) = true) : unoB F tn kd a i = true := by
  unfold unoB
  rw [List.any_eq_true]
  exact ⟨j, by simpa using hj, h⟩

/-- The three boxes of 'unordered'. -/
structure UM (w wr : World) (b4 b7 b8 : Nat) (q q2 : Pk) (nw : Nat → Int) : Prop where
  h4 : wr.heap[b4]? = some (.cells (pkL q).toArray 66 (0, 0))
  h7 : wr.heap[b7]? = some (.cells (ckL nw).toArray 61 (0, 0))
  h8 : wr.heap[b8]? = some (.cells (pkL q2).toArray 66 (0, 0))
  f : Fr no w wr
theorem UM.keep {w wr w2 : World} {b4 b7 b8 : Nat} {q q2 : Pk} {nw : Nat → Int} (h : UM w wr b4 b7 b8 q q2 nw) (f : Fr no wr w2) : UM w w2 b4 b7 b8 q q2 nw :=
  ⟨f.heap h.h4 (fun x => x), f.heap h.h7 (fun x => x), f.heap h.h8 (fun x => x), h.f.and f⟩
theorem cells4 {w : World} {b : Nat} {q : Pk} (h : w.heap[b]? = some (.cells (pkL q).toArray 66 (0, 0))) : w.cell? ⟨b, 0, none⟩ = some (.int .i64 q.k) ∧ w.cell? ⟨b, 1, none⟩ = some (.int .i64 q.t) ∧ w.cell? ⟨b, 2, none⟩ = some (.int .i64 q.a) ∧ w.cell? ⟨b, 3, none⟩ = some (.int .i64 q.i) := by
  unfold World.cell?
  simp only [h]
  exact ⟨rfl, rfl, rfl, rfl⟩
theorem UM.step {w wr : World} {b4 b7 b8 : Nat} {q q2 : Pk} {nw : Nat → Int} (h : UM w wr b4 b7 b8 q q2 nw) (h1 : b4 ≠ b8) (h2 : b7 ≠ b8) (hw : w.heap.size ≤ b8) (t : Int) : UM w (wr.setCell ⟨b8, 1, none⟩ (.int .i64 t)) b4 b7 b8 q ⟨q2.k, t, q2.a, q2.i⟩ nw := by
  have f := fr_set wr b8 1 (.int .i64 t)
  exact ⟨f.heap h.h4 (fun e => h1 e), f.heap h.h7 (fun e => h2 e), heap_set h.h8, h.f.newBk f hw⟩
theorem info66 : (Try.prog.info? 66).map (·.size) = some 4 := by kernel_rfl
theorem pk_one (q : Pk) : (pkL q).toArray.all (·.oneCell') = true := by simp [pkL, Value.oneCell']
def z4 : Array Value := #[.int .i64 0, .int .i64 0, .int .i64 0, .int .i64 0]
section
variable {o : Oper} {a : Act} {w : World}
theorem ev_eqF (x y : Nat) (u v : Int) (ho : o.op = .binOp .eql 3 (.tmp x) (.tmp y) 3) (hx : a.eval (.tmp x) = .int .i64 u) (hy : a.eval (.tmp y) = .int .i64 v) (hne : u ≠ v) : (execOp a.eval o).run Try.prog w = .ok (.value (.bool false)) w := by
  generalize a.eval = ρ at *; unfold execOp; simp [go_sem, ho, hx, hy, hne]
end
noncomputable def reg48tC : Code := ((Try.f48.body.bind (regionOf 6)).getD .skip)
set_option maxRecDepth 100000 in
set_option maxHeartbeats 1000000 in
theorem reg48t (W : World) (p b4 b7 b8 : Nat) (t : Int) (hC : ∀ w', Fr no W w' → w'.cell? ⟨b8, 1, none⟩ = some (.int .i64 t) ∧ w'.cell? ⟨b4, 1, none⟩ = some (.int .i64 t))
    (K : Act → World → Prop) (u1 u2 u3 u5 u6 u9 u10 u11 u12 u13 u14 u15 u16 u17 u18 u19 u20 u21 u22 u23 u24 u25 u26 u27 u28 u29 u30 u31 u32 u33 u34 u35 u36 u37 u38 u39 u40 : Value)
    (hQ : ∀ w', Fr no W w' → K ⟨#[.pointer (some ⟨p, 0, none⟩), u1, u2, u3, .pointer (some ⟨b4, 0, none⟩), u5, u6, .pointer (some ⟨b7, 0, none⟩), .pointer (some ⟨b8, 0, none⟩), u9, u10, u11, u12, u13, u14, u15, u16, u17, u18, u19, u20, u21, u22, u23, u24, u25, .pointer (some ⟨b8, 1, none⟩), .int .i64 t, .pointer (some ⟨b4, 1, none⟩), .int .i64 t, .bool true, .bool true, undef, undef, undef, undef, undef, undef, undef, undef, .bool true], []⟩ w') :
    Code.wp Try.prog reg48tC (Exit.then K (fun _ _ _ => False)) ⟨#[.pointer (some ⟨p, 0, none⟩), u1, u2, u3, .pointer (some ⟨b4, 0, none⟩), u5, u6, .pointer (some ⟨b7, 0, none⟩), .pointer (some ⟨b8, 0, none⟩), u9, u10, u11, u12, u13, u14, u15, u16, u17, u18, u19, u20, u21, u22, u23, u24, u25, u26, u27, u28, u29, u30, u31, u32, u33, u34, u35, u36, u37, u38, u39, u40], []⟩ W := by
  have HQ : Hid _ := hQ
  have HC : Hid _ := hC
  clear hQ hC
  have f0 : Fr no W W.drew := (Fr.refl _ W).drew
  unfold reg48tC
  conv => arg 2; whnf
  refine late_begin (S := fun w' => Fr no W w') (g := 14) (by kernel_rfl) ?_
  refine lateP 0 (.pointer (some ⟨b8, 1, none⟩)) rfl (fun _ => ev_field 66 8 1 (.pointer (some ⟨b8, 0, none⟩)) _ rfl (by kernel_rfl) (by kernel_rfl)) (fun _ => f0) ?_
  refine lateP 2 (.pointer (some ⟨b4, 1, none⟩)) rfl (fun _ => ev_field 66 4 1 (.pointer (some ⟨b4, 0, none⟩)) _ rfl (by kernel_rfl) (by kernel_rfl)) (fun _ => f0) ?_
  refine lateN #[true, false, true, false, false, false, false, false, false, false, false, false, false, false, false] ⟨#[.pointer (some ⟨p, 0, none⟩), u1, u2, u3, .pointer (some ⟨b4, 0, none⟩), u5, u6, .pointer (some ⟨b7, 0, none⟩), .pointer (some ⟨b8, 0, none⟩), u9, u10, u11, u12, u13, u14, u15, u16, u17, u18, u19, u20, u21, u22, u23, u24, u25, .pointer (some ⟨b8, 1, none⟩), u27, .pointer (some ⟨b4, 1, none⟩), u29, u30, u31, u32, u33, u34, u35, u36, u37, u38, u39, u40], []⟩ ?_
  refine lateC 1 [4, 5] (.int .i64 t) rfl (fun wz hz => ev_load 3 26 (.pointer (some ⟨b8, 1, none⟩)) (.int .i64 t) rfl (by kernel_rfl) (ld3 (HC.out wz hz).1)) f0 ?_
  refine lateN #[true, true, true, false, false, false, false, false, false, false, false, false, false, false, false] ⟨#[.pointer (some ⟨p, 0, none⟩), u1, u2, u3, .pointer (some ⟨b4, 0, none⟩), u5, u6, .pointer (some ⟨b7, 0, none⟩), .pointer (some ⟨b8, 0, none⟩), u9, u10, u11, u12, u13, u14, u15, u16, u17, u18, u19, u20, u21, u22, u23, u24, u25, .pointer (some ⟨b8, 1, none⟩), .int .i64 t, .pointer (some ⟨b4, 1, none⟩), u29, u30, u31, u32, u33, u34, u35, u36, u37, u38, u39, u40], []⟩ ?_
  refine lateC 3 [4, 5] (.int .i64 t) rfl (fun wz hz => ev_load 3 28 (.pointer (some ⟨b4, 1, none⟩)) (.int .i64 t) rfl (by kernel_rfl) (ld3 (HC.out wz hz).2)) f0 ?_
  refine lateN #[true, true, true, true, false, false, false, false, false, false, false, false, false, false, false] ⟨#[.pointer (some ⟨p, 0, none⟩), u1, u2, u3, .pointer (some ⟨b4, 0, none⟩), u5, u6, .pointer (some ⟨b7, 0, none⟩), .pointer (some ⟨b8, 0, none⟩), u9, u10, u11, u12, u13, u14, u15, u16, u17, u18, u19, u20, u21, u22, u23, u24, u25, .pointer (some ⟨b8, 1, none⟩), .int .i64 t, .pointer (some ⟨b4, 1, none⟩), .int .i64 t, u30, u31, u32, u33, u34, u35, u36, u37, u38, u39, u40], []⟩ ?_
  refine lateP 4 (.bool true) rfl (fun _ => ev_eqT 27 29 t rfl (by kernel_rfl) (by kernel_rfl)) (fun _ => f0) ?_
  refine lateN #[true, true, true, true, true, false, false, false, false, false, false, false, false, false, false] ⟨#[.pointer (some ⟨p, 0, none⟩), u1, u2, u3, .pointer (some ⟨b4, 0, none⟩), u5, u6, .pointer (some ⟨b7, 0, none⟩), .pointer (some ⟨b8, 0, none⟩), u9, u10, u11, u12, u13, u14, u15, u16, u17, u18, u19, u20, u21, u22, u23, u24, u25, .pointer (some ⟨b8, 1, none⟩), .int .i64 t, .pointer (some ⟨b4, 1, none⟩), .int .i64 t, .bool true, u31, u32, u33, u34, u35, u36, u37, u38, u39, u40], []⟩ ?_
  refine lateP 5 (.bool true) rfl (fun _ => ev_move 30 _ rfl (by kernel_rfl)) (fun _ => f0) ?_
  refine lateN #[true, true, true, true, true, true, false, false, false, false, false, false, false, false, false] ⟨#[.pointer (some ⟨p, 0, none⟩), u1, u2, u3, .pointer (some ⟨b4, 0, none⟩), u5, u6, .pointer (some ⟨b7, 0, none⟩), .pointer (some ⟨b8, 0, none⟩), u9, u10, u11, u12, u13, u14, u15, u16, u17, u18, u19, u20, u21, u22, u23, u24, u25, .pointer (some ⟨b8, 1, none⟩), .int .i64 t, .pointer (some ⟨b4, 1, none⟩), .int .i64 t, .bool true, .bool true, u32, u33, u34, u35, u36, u37, u38, u39, u40], []⟩ ?_
  refine lateHO 6 rfl (fun _ => f0) ?_
  refine lateN #[true, true, true, true, true, true, true, false, false, false, false, false, false, false, false] ⟨#[.pointer (some ⟨p, 0, none⟩), u1, u2, u3, .pointer (some ⟨b4, 0, none⟩), u5, u6, .pointer (some ⟨b7, 0, none⟩), .pointer (some ⟨b8, 0, none⟩), u9, u10, u11, u12, u13, u14, u15, u16, u17, u18, u19, u20, u21, u22, u23, u24, u25, .pointer (some ⟨b8, 1, none⟩), .int .i64 t, .pointer (some ⟨b4, 1, none⟩), .int .i64 t, .bool true, .bool true, undef, u33, u34, u35, u36, u37, u38, u39, u40], []⟩ ?_
  refine lateHO 7 rfl (fun _ => f0) ?_
  refine lateN #[true, true, true, true, true, true, true, true, false, false, false, false, false, false, false] ⟨#[.pointer (some ⟨p, 0, none⟩), u1, u2, u3, .pointer (some ⟨b4, 0, none⟩), u5, u6, .pointer (some ⟨b7, 0, none⟩), .pointer (some ⟨b8, 0, none⟩), u9, u10, u11, u12, u13, u14, u15, u16, u17, u18, u19, u20, u21, u22, u23, u24, u25, .pointer (some ⟨b8, 1, none⟩), .int .i64 t, .pointer (some ⟨b4, 1, none⟩), .int .i64 t, .bool true, .bool true, undef, undef, u34, u35, u36, u37, u38, u39, u40], []⟩ ?_
  refine lateHO 8 rfl (fun _ => f0) ?_
  refine lateN #[true, true, true, true, true, true, true, true, true, false, false, false, false, false, false] ⟨#[.pointer (some ⟨p, 0, none⟩), u1, u2, u3, .pointer (some ⟨b4, 0, none⟩), u5, u6, .pointer (some ⟨b7, 0, none⟩), .pointer (some ⟨b8, 0, none⟩), u9, u10, u11, u12, u13, u14, u15, u16, u17, u18, u19, u20, u21, u22, u23, u24, u25, .pointer (some ⟨b8, 1, none⟩), .int .i64 t, .pointer (some ⟨b4, 1, none⟩), .int .i64 t, .bool true, .bool true, undef, undef, undef, u35, u36, u37, u38, u39, u40], []⟩ ?_
  refine lateHO 9 rfl (fun _ => f0) ?_
  refine lateN #[true, true, true, true, true, true, true, true, true, true, false, false, false, false, false] ⟨#[.pointer (some ⟨p, 0, none⟩), u1, u2, u3, .pointer (some ⟨b4, 0, none⟩), u5, u6, .pointer (some ⟨b7, 0, none⟩), .pointer (some ⟨b8, 0, none⟩), u9, u10, u11, u12, u13, u14, u15, u16, u17, u18, u19, u20, u21, u22, u23, u24, u25, .pointer (some ⟨b8, 1, none⟩), .int .i64 t, .pointer (some ⟨b4, 1, none⟩), .int .i64 t, .bool true, .bool true, undef, undef, undef, undef, u36, u37, u38, u39, u40], []⟩ ?_
  refine lateHO 10 rfl (fun _ => f0) ?_
  refine lateN #[true, true, true, true, true, true, true, true, true, true, true, false, false, false, false] ⟨#[.pointer (some ⟨p, 0, none⟩), u1, u2, u3, .pointer (some ⟨b4, 0, none⟩), u5, u6, .pointer (some ⟨b7, 0, none⟩), .pointer (some ⟨b8, 0, none⟩), u9, u10, u11, u12, u13, u14, u15, u16, u17, u18, u19, u20, u21, u22, u23, u24, u25, .pointer (some ⟨b8, 1, none⟩), .int .i64 t, .pointer (some ⟨b4, 1, none⟩), .int .i64 t, .bool true, .bool true, undef, undef, undef, undef, undef, u37, u38, u39, u40], []⟩ ?_
  refine lateHO 11 rfl (fun _ => f0) ?_
  refine lateN #[true, true, true, true, true, true, true, true, true, true, true, true, false, false, false] ⟨#[.pointer (some ⟨p, 0, none⟩), u1, u2, u3, .pointer (some ⟨b4, 0, none⟩), u5, u6, .pointer (some ⟨b7, 0, none⟩), .pointer (some ⟨b8, 0, none⟩), u9, u10, u11, u12, u13, u14, u15, u16, u17, u18, u19, u20, u21, u22, u23, u24, u25, .pointer (some ⟨b8, 1, none⟩), .int .i64 t, .pointer (some ⟨b4, 1, none⟩), .int .i64 t, .bool true, .bool true, undef, undef, undef, undef, undef, undef, u38, u39, u40], []⟩ ?_
  refine lateHO 12 rfl (fun _ => f0) ?_
  refine lateN #[true, true, true, true, true, true, true, true, true, true, true, true, true, false, false] ⟨#[.pointer (some ⟨p, 0, none⟩), u1, u2, u3, .pointer (some ⟨b4, 0, none⟩), u5, u6, .pointer (some ⟨b7, 0, none⟩), .pointer (some ⟨b8, 0, none⟩), u9, u10, u11, u12, u13, u14, u15, u16, u17, u18, u19, u20, u21, u22, u23, u24, u25, .pointer (some ⟨b8, 1, none⟩), .int .i64 t, .pointer (some ⟨b4, 1, none⟩), .int .i64 t, .bool true, .bool true, undef, undef, undef, undef, undef, undef, undef, u39, u40], []⟩ ?_
  refine lateHO 13 rfl (fun _ => f0) ?_
  refine lateN #[true, true, true, true, true, true, true, true, true, true, true, true, true, true, false] ⟨#[.pointer (some ⟨p, 0, none⟩), u1, u2, u3, .pointer (some ⟨b4, 0, none⟩), u5, u6, .pointer (some ⟨b7, 0, none⟩), .pointer (some ⟨b8, 0, none⟩), u9, u10, u11, u12, u13, u14, u15, u16, u17, u18, u19, u20, u21, u22, u23, u24, u25, .pointer (some ⟨b8, 1, none⟩), .int .i64 t, .pointer (some ⟨b4, 1, none⟩), .int .i64 t, .bool true, .bool true, undef, undef, undef, undef, undef, undef, undef, undef, u40], []⟩ ?_
  refine late_all [14] (by kernel_rfl) (by simp) (fun jj hjj => ?_)
  simp only [List.mem_singleton] at hjj
  subst hjj
  refine late_op (v := .bool true) rfl (by kernel_rfl) (ev_pickT 31 (.const (.bool true)) (.tmp 39) _ rfl (by kernel_rfl) (by kernel_rfl)) ?_
  refine ⟨fun _ => f0, ?_⟩
  refine lateN #[true, true, true, true, true, true, true, true, true, true, true, true, true, true, true] ⟨#[.pointer (some ⟨p, 0, none⟩), u1, u2, u3, .pointer (some ⟨b4, 0, none⟩), u5, u6, .pointer (some ⟨b7, 0, none⟩), .pointer (some ⟨b8, 0, none⟩), u9, u10, u11, u12, u13, u14, u15, u16, u17, u18, u19, u20, u21, u22, u23, u24, u25, .pointer (some ⟨b8, 1, none⟩), .int .i64 t, .pointer (some ⟨b4, 1, none⟩), .int .i64 t, .bool true, .bool true, undef, undef, undef, undef, undef, undef, undef, undef, .bool true], []⟩ ?_
  refine late_done (by kernel_rfl) ?_
  exact HQ.out _ f0

noncomputable def reg48fC : Code := ((Try.f48.body.bind (regionOf 6)).getD .skip)
set_option maxRecDepth 100000 in
set_option maxHeartbeats 1000000 in
theorem reg48f (W : World) (p b4 b7 b8 : Nat) (j t : Int) (hne : j ≠ t) (v : Value) (q2 : Pk) (c1 c2 : Nat → Int) (hC : ∀ w', Fr no W w' → w'.cell? ⟨b8, 1, none⟩ = some (.int .i64 j) ∧ w'.cell? ⟨b4, 1, none⟩ = some (.int .i64 t) ∧ w'.cell? ⟨p, 0, none⟩ = some v ∧ w'.heap[b8]? = some (.cells (pkL q2).toArray 66 (0, 0)) ∧ (Instr.lookup 56 v (pkV q2) false).run Try.prog w' = .ok (ckV c1) w' ∧ w'.rangeAt b7 0 (ckL c2))
    (K : Act → World → Prop) (u1 u2 u3 u5 u6 u9 u10 u11 u12 u13 u14 u15 u16 u17 u18 u19 u20 u21 u22 u23 u24 u25 u26 u27 u28 u29 u30 u31 u32 u33 u34 u35 u36 u37 u38 u39 u40 : Value)
    (hQ : ∀ w', Fr no W w' → K ⟨#[.pointer (some ⟨p, 0, none⟩), u1, u2, u3, .pointer (some ⟨b4, 0, none⟩), u5, u6, .pointer (some ⟨b7, 0, none⟩), .pointer (some ⟨b8, 0, none⟩), u9, u10, u11, u12, u13, u14, u15, u16, u17, u18, u19, u20, u21, u22, u23, u24, u25, .pointer (some ⟨b8, 1, none⟩), .int .i64 j, .pointer (some ⟨b4, 1, none⟩), .int .i64 t, .bool false, .bool false, .pointer (some ⟨p, 0, none⟩), .pointer (some ⟨p, 0, none⟩), .pointer (some ⟨p, 0, none⟩), v, pkV q2, ckV c1, ckV c2, .bool (beforeB c1 c2), .bool (beforeB c1 c2)], []⟩ w') :
    Code.wp Try.prog reg48fC (Exit.then K (fun _ _ _ => False)) ⟨#[.pointer (some ⟨p, 0, none⟩), u1, u2, u3, .pointer (some ⟨b4, 0, none⟩), u5, u6, .pointer (some ⟨b7, 0, none⟩), .pointer (some ⟨b8, 0, none⟩), u9, u10, u11, u12, u13, u14, u15, u16, u17, u18, u19, u20, u21, u22, u23, u24, u25, u26, u27, u28, u29, u30, u31, u32, u33, u34, u35, u36, u37, u38, u39, u40], []⟩ W := by
  have HQ : Hid _ := hQ
  have HC : Hid _ := hC
  clear hQ hC
  have f0 : Fr no W W.drew := (Fr.refl _ W).drew
  unfold reg48fC
  conv => arg 2; whnf
  refine late_begin (S := fun w' => Fr no W w') (g := 13) (by kernel_rfl) ?_
  refine lateP 0 (.pointer (some ⟨b8, 1, none⟩)) rfl (fun _ => ev_field 66 8 1 (.pointer (some ⟨b8, 0, none⟩)) _ rfl (by kernel_rfl) (by kernel_rfl)) (fun _ => f0) ?_
  refine lateP 2 (.pointer (some ⟨b4, 1, none⟩)) rfl (fun _ => ev_field 66 4 1 (.pointer (some ⟨b4, 0, none⟩)) _ rfl (by kernel_rfl) (by kernel_rfl)) (fun _ => f0) ?_
  refine lateN #[true, false, true, false, false, false, false, false, false, false, false, false, false, false, false] ⟨#[.pointer (some ⟨p, 0, none⟩), u1, u2, u3, .pointer (some ⟨b4, 0, none⟩), u5, u6, .pointer (some ⟨b7, 0, none⟩), .pointer (some ⟨b8, 0, none⟩), u9, u10, u11, u12, u13, u14, u15, u16, u17, u18, u19, u20, u21, u22, u23, u24, u25, .pointer (some ⟨b8, 1, none⟩), u27, .pointer (some ⟨b4, 1, none⟩), u29, u30, u31, u32, u33, u34, u35, u36, u37, u38, u39, u40], []⟩ ?_
  refine lateC 1 [4, 5] (.int .i64 j) rfl (fun wz hz => ev_load 3 26 (.pointer (some ⟨b8, 1, none⟩)) (.int .i64 j) rfl (by kernel_rfl) (ld3 (HC.out wz hz).1)) f0 ?_
  refine lateN #[true, true, true, false, false, false, false, false, false, false, false, false, false, false, false] ⟨#[.pointer (some ⟨p, 0, none⟩), u1, u2, u3, .pointer (some ⟨b4, 0, none⟩), u5, u6, .pointer (some ⟨b7, 0, none⟩), .pointer (some ⟨b8, 0, none⟩), u9, u10, u11, u12, u13, u14, u15, u16, u17, u18, u19, u20, u21, u22, u23, u24, u25, .pointer (some ⟨b8, 1, none⟩), .int .i64 j, .pointer (some ⟨b4, 1, none⟩), u29, u30, u31, u32, u33, u34, u35, u36, u37, u38, u39, u40], []⟩ ?_
  refine lateC 3 [4, 5] (.int .i64 t) rfl (fun wz hz => ev_load 3 28 (.pointer (some ⟨b4, 1, none⟩)) (.int .i64 t) rfl (by kernel_rfl) (ld3 (HC.out wz hz).2.1)) f0 ?_
  refine lateN #[true, true, true, true, false, false, false, false, false, false, false, false, false, false, false] ⟨#[.pointer (some ⟨p, 0, none⟩), u1, u2, u3, .pointer (some ⟨b4, 0, none⟩), u5, u6, .pointer (some ⟨b7, 0, none⟩), .pointer (some ⟨b8, 0, none⟩), u9, u10, u11, u12, u13, u14, u15, u16, u17, u18, u19, u20, u21, u22, u23, u24, u25, .pointer (some ⟨b8, 1, none⟩), .int .i64 j, .pointer (some ⟨b4, 1, none⟩), .int .i64 t, u30, u31, u32, u33, u34, u35, u36, u37, u38, u39, u40], []⟩ ?_
  refine lateP 4 (.bool false) rfl (fun _ => ev_eqF 27 29 j t rfl (by kernel_rfl) (by kernel_rfl) hne) (fun _ => f0) ?_
  refine lateN #[true, true, true, true, true, false, false, false, false, false, false, false, false, false, false] ⟨#[.pointer (some ⟨p, 0, none⟩), u1, u2, u3, .pointer (some ⟨b4, 0, none⟩), u5, u6, .pointer (some ⟨b7, 0, none⟩), .pointer (some ⟨b8, 0, none⟩), u9, u10, u11, u12, u13, u14, u15, u16, u17, u18, u19, u20, u21, u22, u23, u24, u25, .pointer (some ⟨b8, 1, none⟩), .int .i64 j, .pointer (some ⟨b4, 1, none⟩), .int .i64 t, .bool false, u31, u32, u33, u34, u35, u36, u37, u38, u39, u40], []⟩ ?_
  refine lateP 5 (.bool false) rfl (fun _ => ev_move 30 _ rfl (by kernel_rfl)) (fun _ => f0) ?_
  refine lateN #[true, true, true, true, true, true, false, false, false, false, false, false, false, false, false] ⟨#[.pointer (some ⟨p, 0, none⟩), u1, u2, u3, .pointer (some ⟨b4, 0, none⟩), u5, u6, .pointer (some ⟨b7, 0, none⟩), .pointer (some ⟨b8, 0, none⟩), u9, u10, u11, u12, u13, u14, u15, u16, u17, u18, u19, u20, u21, u22, u23, u24, u25, .pointer (some ⟨b8, 1, none⟩), .int .i64 j, .pointer (some ⟨b4, 1, none⟩), .int .i64 t, .bool false, .bool false, u32, u33, u34, u35, u36, u37, u38, u39, u40], []⟩ ?_
  refine lateHP 6 (.pointer (some ⟨p, 0, none⟩)) rfl (fun _ => ev_move 0 _ rfl (by kernel_rfl)) (fun _ => f0) ?_
  refine lateN #[true, true, true, true, true, true, true, false, false, false, false, false, false, false, false] ⟨#[.pointer (some ⟨p, 0, none⟩), u1, u2, u3, .pointer (some ⟨b4, 0, none⟩), u5, u6, .pointer (some ⟨b7, 0, none⟩), .pointer (some ⟨b8, 0, none⟩), u9, u10, u11, u12, u13, u14, u15, u16, u17, u18, u19, u20, u21, u22, u23, u24, u25, .pointer (some ⟨b8, 1, none⟩), .int .i64 j, .pointer (some ⟨b4, 1, none⟩), .int .i64 t, .bool false, .bool false, .pointer (some ⟨p, 0, none⟩), u33, u34, u35, u36, u37, u38, u39, u40], []⟩ ?_
  refine lateHP 7 (.pointer (some ⟨p, 0, none⟩)) rfl (fun _ => ev_nil 32 ⟨p, 0, none⟩ rfl (by kernel_rfl)) (fun _ => f0) ?_
  refine lateN #[true, true, true, true, true, true, true, true, false, false, false, false, false, false, false] ⟨#[.pointer (some ⟨p, 0, none⟩), u1, u2, u3, .pointer (some ⟨b4, 0, none⟩), u5, u6, .pointer (some ⟨b7, 0, none⟩), .pointer (some ⟨b8, 0, none⟩), u9, u10, u11, u12, u13, u14, u15, u16, u17, u18, u19, u20, u21, u22, u23, u24, u25, .pointer (some ⟨b8, 1, none⟩), .int .i64 j, .pointer (some ⟨b4, 1, none⟩), .int .i64 t, .bool false, .bool false, .pointer (some ⟨p, 0, none⟩), .pointer (some ⟨p, 0, none⟩), u34, u35, u36, u37, u38, u39, u40], []⟩ ?_
  refine lateHP 8 (.pointer (some ⟨p, 0, none⟩)) rfl (fun _ => ev_field 58 33 0 (.pointer (some ⟨p, 0, none⟩)) _ rfl (by kernel_rfl) (by kernel_rfl)) (fun _ => f0) ?_
  refine lateN #[true, true, true, true, true, true, true, true, true, false, false, false, false, false, false] ⟨#[.pointer (some ⟨p, 0, none⟩), u1, u2, u3, .pointer (some ⟨b4, 0, none⟩), u5, u6, .pointer (some ⟨b7, 0, none⟩), .pointer (some ⟨b8, 0, none⟩), u9, u10, u11, u12, u13, u14, u15, u16, u17, u18, u19, u20, u21, u22, u23, u24, u25, .pointer (some ⟨b8, 1, none⟩), .int .i64 j, .pointer (some ⟨b4, 1, none⟩), .int .i64 t, .bool false, .bool false, .pointer (some ⟨p, 0, none⟩), .pointer (some ⟨p, 0, none⟩), .pointer (some ⟨p, 0, none⟩), u35, u36, u37, u38, u39, u40], []⟩ ?_
  refine lateGC 9 [11] (v) rfl (fun wz hz => ev_load 56 34 (.pointer (some ⟨p, 0, none⟩)) v rfl (by kernel_rfl) (ld56 (HC.out wz hz).2.2.1)) f0 ?_
  refine lateN #[true, true, true, true, true, true, true, true, true, true, false, false, false, false, false] ⟨#[.pointer (some ⟨p, 0, none⟩), u1, u2, u3, .pointer (some ⟨b4, 0, none⟩), u5, u6, .pointer (some ⟨b7, 0, none⟩), .pointer (some ⟨b8, 0, none⟩), u9, u10, u11, u12, u13, u14, u15, u16, u17, u18, u19, u20, u21, u22, u23, u24, u25, .pointer (some ⟨b8, 1, none⟩), .int .i64 j, .pointer (some ⟨b4, 1, none⟩), .int .i64 t, .bool false, .bool false, .pointer (some ⟨p, 0, none⟩), .pointer (some ⟨p, 0, none⟩), .pointer (some ⟨p, 0, none⟩), v, u36, u37, u38, u39, u40], []⟩ ?_
  refine lateGC 10 [11] (pkV q2) rfl (fun wz hz => ev_load 66 8 (.pointer (some ⟨b8, 0, none⟩)) (pkV q2) rfl (by kernel_rfl) (ld66 (HC.out wz hz).2.2.2.1)) f0 ?_
  refine lateN #[true, true, true, true, true, true, true, true, true, true, true, false, false, false, false] ⟨#[.pointer (some ⟨p, 0, none⟩), u1, u2, u3, .pointer (some ⟨b4, 0, none⟩), u5, u6, .pointer (some ⟨b7, 0, none⟩), .pointer (some ⟨b8, 0, none⟩), u9, u10, u11, u12, u13, u14, u15, u16, u17, u18, u19, u20, u21, u22, u23, u24, u25, .pointer (some ⟨b8, 1, none⟩), .int .i64 j, .pointer (some ⟨b4, 1, none⟩), .int .i64 t, .bool false, .bool false, .pointer (some ⟨p, 0, none⟩), .pointer (some ⟨p, 0, none⟩), .pointer (some ⟨p, 0, none⟩), v, pkV q2, u37, u38, u39, u40], []⟩ ?_
  refine lateGC 11 [] (ckV c1) rfl (fun wz hz => ev_lookup 56 35 36 false v (pkV q2) _ rfl (by kernel_rfl) (by kernel_rfl) (HC.out wz hz).2.2.2.2.1) f0 ?_
  refine lateN #[true, true, true, true, true, true, true, true, true, true, true, true, false, false, false] ⟨#[.pointer (some ⟨p, 0, none⟩), u1, u2, u3, .pointer (some ⟨b4, 0, none⟩), u5, u6, .pointer (some ⟨b7, 0, none⟩), .pointer (some ⟨b8, 0, none⟩), u9, u10, u11, u12, u13, u14, u15, u16, u17, u18, u19, u20, u21, u22, u23, u24, u25, .pointer (some ⟨b8, 1, none⟩), .int .i64 j, .pointer (some ⟨b4, 1, none⟩), .int .i64 t, .bool false, .bool false, .pointer (some ⟨p, 0, none⟩), .pointer (some ⟨p, 0, none⟩), .pointer (some ⟨p, 0, none⟩), v, pkV q2, ckV c1, u38, u39, u40], []⟩ ?_
  refine lateGC 12 [] (ckV c2) rfl (fun wz hz => ev_load 61 7 (.pointer (some ⟨b7, 0, none⟩)) (ckV c2) rfl (by kernel_rfl) (ld_nk (HC.out wz hz).2.2.2.2.2)) f0 ?_
  refine lateN #[true, true, true, true, true, true, true, true, true, true, true, true, true, false, false] ⟨#[.pointer (some ⟨p, 0, none⟩), u1, u2, u3, .pointer (some ⟨b4, 0, none⟩), u5, u6, .pointer (some ⟨b7, 0, none⟩), .pointer (some ⟨b8, 0, none⟩), u9, u10, u11, u12, u13, u14, u15, u16, u17, u18, u19, u20, u21, u22, u23, u24, u25, .pointer (some ⟨b8, 1, none⟩), .int .i64 j, .pointer (some ⟨b4, 1, none⟩), .int .i64 t, .bool false, .bool false, .pointer (some ⟨p, 0, none⟩), .pointer (some ⟨p, 0, none⟩), .pointer (some ⟨p, 0, none⟩), v, pkV q2, ckV c1, ckV c2, u39, u40], []⟩ ?_
  refine late_all [13] (by kernel_rfl) (by simp) (fun jj hjj => ?_)
  simp only [List.mem_singleton] at hjj
  subst hjj
  refine late_callW rfl (by kernel_rfl) (by kernel_rfl) ((pbefore_any W.drew c1 c2).mono fun e w' h => (⟨_, h.1, rfl, h.2⟩ : ∃ v, e = .returned v ∧ (v = .bool (beforeB c1 c2) ∧ Fr no W.drew w'))) ?_
  rintro v2 w2 ⟨rfl, F2⟩
  have f2 : Fr no W w2 := f0.and F2
  refine ⟨fun _ => f2, ?_⟩
  refine lateN #[true, true, true, true, true, true, true, true, true, true, true, true, true, true, false] ⟨#[.pointer (some ⟨p, 0, none⟩), u1, u2, u3, .pointer (some ⟨b4, 0, none⟩), u5, u6, .pointer (some ⟨b7, 0, none⟩), .pointer (some ⟨b8, 0, none⟩), u9, u10, u11, u12, u13, u14, u15, u16, u17, u18, u19, u20, u21, u22, u23, u24, u25, .pointer (some ⟨b8, 1, none⟩), .int .i64 j, .pointer (some ⟨b4, 1, none⟩), .int .i64 t, .bool false, .bool false, .pointer (some ⟨p, 0, none⟩), .pointer (some ⟨p, 0, none⟩), .pointer (some ⟨p, 0, none⟩), v, pkV q2, ckV c1, ckV c2, .bool (beforeB c1 c2), u40], []⟩ ?_
  refine lateP 14 (.bool (beforeB c1 c2)) rfl (fun _ => ev_pickF 31 (.const (.bool true)) (.tmp 39) _ rfl (by kernel_rfl) (by kernel_rfl)) (fun _ => f2) ?_
  refine lateN #[true, true, true, true, true, true, true, true, true, true, true, true, true, true, true] ⟨#[.pointer (some ⟨p, 0, none⟩), u1, u2, u3, .pointer (some ⟨b4, 0, none⟩), u5, u6, .pointer (some ⟨b7, 0, none⟩), .pointer (some ⟨b8, 0, none⟩), u9, u10, u11, u12, u13, u14, u15, u16, u17, u18, u19, u20, u21, u22, u23, u24, u25, .pointer (some ⟨b8, 1, none⟩), .int .i64 j, .pointer (some ⟨b4, 1, none⟩), .int .i64 t, .bool false, .bool false, .pointer (some ⟨p, 0, none⟩), .pointer (some ⟨p, 0, none⟩), .pointer (some ⟨p, 0, none⟩), v, pkV q2, ckV c1, ckV c2, .bool (beforeB c1 c2), .bool (beforeB c1 c2)], []⟩ ?_
  refine late_done (by kernel_rfl) ?_
  exact HQ.out _ f2

end Go.Proofs.Ytnineggppoipiaa
