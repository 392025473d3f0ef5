/- Wait of the document. -/
import Derived.Test.YtkkpimpmhnnbjaaDc
import Derived.Test.YtkkpimpmhnnbjaaWa
import Derived.Test.YtkkpimpmhnnbjaaLk
namespace Go.Proofs.Ytkkpimpmhnnbjaa
open Go.ChangeShapes Go.WideShapes Go.ChangeAt Go.RowKit

theorem ld70 {w : World} {q i : Nat} {o : Option Addr} {l c : Nat} (h : w.cell? ⟨q, i, none⟩ = some (.slice o l c)) : (Instr.loadAt 70 (.pointer (some ⟨q, i, none⟩))).run Try.prog w = .ok (.slice o l c) w := by simp [go_sem, h]
theorem st70 {w : World} {q i : Nat} {o o' : Option Addr} {l c l' c' : Nat} (h : w.cell? ⟨q, i, none⟩ = some (.slice o l c)) (z : w.frozen? ⟨q, i, none⟩ = false) : (Instr.storeAt 70 (.pointer (some ⟨q, i, none⟩)) (.slice o' l' c')).run Try.prog w = .ok () (w.setCell ⟨q, i, none⟩ (.slice o' l' c')) := by simp [go_sem, h, z]
theorem ev_len70 {o : Oper} {a : Act} {w : World} (x : Nat) (b : Option Addr) (l c : Nat) (ho : o.op = Op.call { callee := Callee.builtin Builtin.len, args := #[.tmp x], argTypes := #[70] }) (hx : a.eval (.tmp x) = .slice b l c) : (execOp a.eval o).run Try.prog w = .ok (.value (.int .i64 (l : Int))) w := by
  unfold execOp; simp only [ho, resolve, invoke, builtin, List.map_toArray, List.map_cons, List.map_nil, hx]; simp [go_sem, Result.andThen]
theorem ev_slice3 {o : Oper} {a : Act} {w : World} (x y z : Nat) (v u c1 c2 : Value) (ho : o.op = .slice 70 (.tmp x) none (some (.tmp y)) (some (.tmp z))) (hx : a.eval (.tmp x) = v) (hy : a.eval (.tmp y) = c1) (hz : a.eval (.tmp z) = c2) (hr : (Instr.slice 70 v none (some c1) (some c2)).run Try.prog w = .ok u w) : (execOp a.eval o).run Try.prog w = .ok (.value u) w := by
  have hu : Try.prog.underlying 70 = some (.slice (Try.prog.elem 70)) := by kernel_rfl
  have hr' : (Instr.sliceAt 70 v none (some c1) (some c2)).run Try.prog w = .ok u w := by rw [run_sliceAt_slice (P := Try.prog) w 70 _ _ _ _ hu]; exact hr
  unfold execOp; simp [ho, hx, hy, hz, hr']
theorem ev_lit75 {o : Oper} {a : Act} {w : World} (x : Nat) (e1 e2 : Int) (N : Nat) (hN : w.heap.size = N) (ho : o.op = .buildSlice 70 1 #[(0, .tmp x)]) (hx : a.eval (.tmp x) = .agg #[.int .i64 e1, .int .i64 e2]) : (execOp a.eval o).run Try.prog w = .ok (.value (.slice (some ⟨N, 0, none⟩) 1 1)) (w.alloc (.cells #[.int .i64 e1, .int .i64 e2] 75)) := by
  subst hN
  unfold execOp; rw [ho]; simp only [List.map_toArray, List.map_cons, List.map_nil, hx]; simp [go_sem]

def dWaitP (a t : Int) (T : List (Int × Lk)) : Int × Int × List (Int × Lk) :=
  match dOwn T a t with
  | none => (0, 130, T)
  | some (i, x) => (handR x, 0, T.set i (a, overL (waitL t x)))

set_option maxRecDepth 100000 in
set_option maxHeartbeats 2000000 in
theorem dWait_any {c : Nat} {w : World} {q : Nat} {T : List (Int × Lk)} (h : DB c w q T) (a t : Int) (hl : T.length ≤ 3000) (hc : ∀ (i : Nat) (x : Lk), T[i]? = some (a, x) → x.wait.length ≤ 900000) :
    Calls Try.prog 15 #[.pointer (some ⟨q, 0, none⟩), .int .i64 a, .int .i64 t] w fun e w' => e = .returned (.tuple #[.int .i64 (dWaitP a t T).1, .int .i64 (dWaitP a t T).2.1]) ∧ DB c w' q (dWaitP a t T).2.2 ∧ Fr (Td c w) w w' := by
  have e1 := eq73n
  have e2 := eq73p
  obtain ⟨D, hD, rfl⟩ := h
  rw [told_length] at hl
  unfold dWaitP
  cases ho : dOwn (told D) a t with
  | none =>
    have OW := dOwned_none hD a t hl ho
    have HZ : Hid (DB c w q (told D) ∧ Fr (Td c w) w w) := ⟨⟨D, hD, rfl⟩, Fr.refl _ _⟩
    clear hD hc ho
    go_enter Try.func15, Try.ntmps15
    go_wp2_with fail
    refine OW.mono ?_
    rintro _ _ ⟨rfl, rfl⟩
    clear OW
    go_wp2_with fail
    go_ret2
    exact ⟨rfl, HZ.out⟩
  | some p =>
    obtain ⟨i, x⟩ := p
    simp only []
    have OW := dOwned_some hD a t hl ho
    have hin := hc i x (dOwn_some ho).2.1
    clear hD hc ho
    go_enter Try.func15, Try.ntmps15
    go_wp2_with fail
    refine OW.mono ?_
    rintro _ w ⟨d, b, r, rfl, hdx, rfl, rfl, rfl⟩
    clear OW
    obtain ⟨-, -, -, c3, -⟩ := hdx.cells
    have z3 := hdx.thaw (r + 3)
    obtain ⟨A1, f1⟩ := hdx.set 3 (.bool true) { d with x := { d.x with fat := true } } (by decide) rfl hdx.rows.1 hdx.rows.2
    have HA : Hid (Dx c (w.setCell ⟨b, r + 3, none⟩ (.bool true)) q (D.set i { d with x := { d.x with fat := true } }) i { d with x := { d.x with fat := true } } b r ∧ Fr (Td c w) w (w.setCell ⟨b, r + 3, none⟩ (.bool true))) := ⟨A1, f1⟩
    clear A1 f1 hdx
    go_upto_region 5 with (fail)
    revert HA
    generalize (w.setCell ⟨b, r + 3, none⟩ (.bool true)) = W
    intro HA
    clear c3 z3
    obtain ⟨-, -, c2, -, -, c5⟩ := HA.out.1.cells
    obtain ⟨r1, r2⟩ := HA.out.1.rows
    simp only [] at c2 c5 r1 r2
    obtain ⟨oe, ce, hev⟩ := r2.form
    have hev' : Hid (d.v = .slice oe d.x.wait.length ce) := hev
    rw [hev] at c5 r2
    obtain ⟨hsl, hso⟩ := cut_full elD_ok elem70 r2
    have LEM : Hid (∀ v' w3, OwnG elD w3 v' (d.x.wait ++ [(t, d.x.count)]) → Fr no W w3 → ∃ ov lf cv, v' = .slice ov lf cv ∧ w3.cell? ⟨b, r + 5, none⟩ = some (.slice oe d.x.wait.length ce) ∧ w3.frozen? ⟨b, r + 5, none⟩ = false ∧
        Hid (∃ d', Dx c (w3.setCell ⟨b, r + 5, none⟩ (.slice ov lf cv)) q (D.set i d') i d' b r ∧ d'.at_ = d.at_ ∧ d'.x = waitL t d.x ∧ Fr (Td c w) w (w3.setCell ⟨b, r + 5, none⟩ (.slice ov lf cv)))) := by
      intro v' w3 o3 f3
      have A3 := HA.out.1.keep f3
      obtain ⟨-, -, -, -, -, k5⟩ := A3.cells
      simp only [] at k5
      rw [hev'.out] at k5
      have z5 := A3.thaw (r + 5)
      have ocv := o3.oneCell
      obtain ⟨A4, f4⟩ := A3.set 5 v' { d with x := waitL t d.x, v := v', hv := ocv } (by decide) rfl A3.rows.1 o3
      rw [List.set_set] at A4
      obtain ⟨ov, cv, rfl⟩ := o3.form
      exact ⟨ov, _, cv, rfl, k5, z5, _, A4, rfl, rfl, (HA.out.2.td f3.ofNo).td f4⟩
    have HC5 : Hid (∀ w', Fr no W w' → w'.cell? ⟨b, r + 5, none⟩ = some (.slice oe d.x.wait.length ce)) := fun w' f => f.cell c5 (fun h => h)
    have HC2 : Hid (∀ w', Fr no W w' → w'.cell? ⟨b, r + 2, none⟩ = some (.int .i64 d.x.count)) := fun w' f => f.cell c2 (fun h => h)
    have HSL : Hid (∀ w', (Instr.slice 70 (.slice oe d.x.wait.length ce) none (some (.int .i64 (d.x.wait.length : Int))) (some (.int .i64 (d.x.wait.length : Int)))).run Try.prog w' = .ok (.slice oe d.x.wait.length d.x.wait.length) w') := hsl
    have HO : Hid (OwnG elD W (.slice oe d.x.wait.length d.x.wait.length) d.x.wait) := hso
    have HLB : Hid (d.x.wait.length + [(t, d.x.count)].length ≤ 1000000) := by simp only [Hid, List.length_cons, List.length_nil]; omega
    have f0 : Fr no W W.drew := (Fr.refl no W).drew
    clear r1 r2 hev hsl hso HA hev' c2 c5 hin
    generalize d.x.wait.length = le at HC5 HSL HO LEM
    generalize d.x.count = ct at HC2 LEM HLB
    rename_i K2 hK2
    refine late_begin (S := fun w' => Fr no W w') (g := 26) (by kernel_rfl) ?_
    refine lateP 0 (.pointer (some ⟨b, r, none⟩)) rfl (fun _ => ev_move 8 _ rfl (by kernel_rfl)) (fun _ => f0) ?_
    refine lateP 1 (.pointer (some ⟨b, r, none⟩)) rfl (fun _ => ev_move 8 _ rfl (by kernel_rfl)) (fun _ => f0) ?_
    refine lateP 2 (.pointer (some ⟨b, r, none⟩)) rfl (fun _ => ev_nil 19 ⟨b, r, none⟩ rfl (by kernel_rfl)) (fun _ => f0) ?_
    refine lateP 3 (.pointer (some ⟨b, r + 5, none⟩)) rfl (fun _ => ev_field 72 20 5 (.pointer (some ⟨b, r, none⟩)) _ rfl (by kernel_rfl) (by kernel_rfl)) (fun _ => f0) ?_
    refine lateN (true :: true :: true :: true :: false :: false :: false :: false :: false :: false :: false :: false :: false :: false :: false :: false :: false :: false :: false :: false :: false :: false :: false :: false :: false :: false :: false :: []).toArray ⟨(.pointer (some ⟨q, 0, none⟩) :: .int .i64 d.at_ :: .int .i64 t :: undef :: undef :: undef :: .int .i64 0 :: .int .i64 0 :: .pointer (some ⟨b, r, none⟩) :: .pointer (some ⟨q, 0, none⟩) :: .int .i64 d.at_ :: .int .i64 t :: .pointer (some ⟨b, r, none⟩) :: .pointer (some ⟨b, r, none⟩) :: .bool false :: .pointer (some ⟨b, r, none⟩) :: .pointer (some ⟨b, r, none⟩) :: .pointer (some ⟨b, r + 3, none⟩) :: .pointer (some ⟨b, r, none⟩) :: .pointer (some ⟨b, r, none⟩) :: .pointer (some ⟨b, r, none⟩) :: .pointer (some ⟨b, r + 5, none⟩) :: undef :: undef :: undef :: undef :: undef :: undef :: undef :: undef :: undef :: undef :: undef :: undef :: undef :: undef :: undef :: undef :: undef :: undef :: undef :: undef :: undef :: undef :: undef :: undef :: []).toArray, []⟩ ?_
    refine lateT 4 (.slice oe le ce) rfl (fun wz hz => ev_load 70 21 (.pointer (some ⟨b, r + 5, none⟩)) (.slice oe le ce) rfl (by kernel_rfl) (ld70 (HC5.out wz hz))) f0 ?_
    refine lateN (true :: true :: true :: true :: true :: false :: false :: false :: false :: false :: false :: false :: false :: false :: false :: false :: false :: false :: false :: false :: false :: false :: false :: false :: false :: false :: false :: []).toArray ⟨(.pointer (some ⟨q, 0, none⟩) :: .int .i64 d.at_ :: .int .i64 t :: undef :: undef :: undef :: .int .i64 0 :: .int .i64 0 :: .pointer (some ⟨b, r, none⟩) :: .pointer (some ⟨q, 0, none⟩) :: .int .i64 d.at_ :: .int .i64 t :: .pointer (some ⟨b, r, none⟩) :: .pointer (some ⟨b, r, none⟩) :: .bool false :: .pointer (some ⟨b, r, none⟩) :: .pointer (some ⟨b, r, none⟩) :: .pointer (some ⟨b, r + 3, none⟩) :: .pointer (some ⟨b, r, none⟩) :: .pointer (some ⟨b, r, none⟩) :: .pointer (some ⟨b, r, none⟩) :: .pointer (some ⟨b, r + 5, none⟩) :: .slice oe le ce :: undef :: undef :: undef :: undef :: undef :: undef :: undef :: undef :: undef :: undef :: undef :: undef :: undef :: undef :: undef :: undef :: undef :: undef :: undef :: undef :: undef :: undef :: undef :: []).toArray, []⟩ ?_
    refine lateP 5 (.pointer (some ⟨b, r, none⟩)) rfl (fun _ => ev_move 8 _ rfl (by kernel_rfl)) (fun _ => f0) ?_
    refine lateP 6 (.pointer (some ⟨b, r, none⟩)) rfl (fun _ => ev_nil 23 ⟨b, r, none⟩ rfl (by kernel_rfl)) (fun _ => f0) ?_
    refine lateP 7 (.pointer (some ⟨b, r + 5, none⟩)) rfl (fun _ => ev_field 72 24 5 (.pointer (some ⟨b, r, none⟩)) _ rfl (by kernel_rfl) (by kernel_rfl)) (fun _ => f0) ?_
    refine lateN (true :: true :: true :: true :: true :: true :: true :: true :: false :: false :: false :: false :: false :: false :: false :: false :: false :: false :: false :: false :: false :: false :: false :: false :: false :: false :: false :: []).toArray ⟨(.pointer (some ⟨q, 0, none⟩) :: .int .i64 d.at_ :: .int .i64 t :: undef :: undef :: undef :: .int .i64 0 :: .int .i64 0 :: .pointer (some ⟨b, r, none⟩) :: .pointer (some ⟨q, 0, none⟩) :: .int .i64 d.at_ :: .int .i64 t :: .pointer (some ⟨b, r, none⟩) :: .pointer (some ⟨b, r, none⟩) :: .bool false :: .pointer (some ⟨b, r, none⟩) :: .pointer (some ⟨b, r, none⟩) :: .pointer (some ⟨b, r + 3, none⟩) :: .pointer (some ⟨b, r, none⟩) :: .pointer (some ⟨b, r, none⟩) :: .pointer (some ⟨b, r, none⟩) :: .pointer (some ⟨b, r + 5, none⟩) :: .slice oe le ce :: .pointer (some ⟨b, r, none⟩) :: .pointer (some ⟨b, r, none⟩) :: .pointer (some ⟨b, r + 5, none⟩) :: undef :: undef :: undef :: undef :: undef :: undef :: undef :: undef :: undef :: undef :: undef :: undef :: undef :: undef :: undef :: undef :: undef :: undef :: undef :: undef :: []).toArray, []⟩ ?_
    refine lateT 8 (.slice oe le ce) rfl (fun wz hz => ev_load 70 25 (.pointer (some ⟨b, r + 5, none⟩)) (.slice oe le ce) rfl (by kernel_rfl) (ld70 (HC5.out wz hz))) f0 ?_
    refine lateN (true :: true :: true :: true :: true :: true :: true :: true :: true :: false :: false :: false :: false :: false :: false :: false :: false :: false :: false :: false :: false :: false :: false :: false :: false :: false :: false :: []).toArray ⟨(.pointer (some ⟨q, 0, none⟩) :: .int .i64 d.at_ :: .int .i64 t :: undef :: undef :: undef :: .int .i64 0 :: .int .i64 0 :: .pointer (some ⟨b, r, none⟩) :: .pointer (some ⟨q, 0, none⟩) :: .int .i64 d.at_ :: .int .i64 t :: .pointer (some ⟨b, r, none⟩) :: .pointer (some ⟨b, r, none⟩) :: .bool false :: .pointer (some ⟨b, r, none⟩) :: .pointer (some ⟨b, r, none⟩) :: .pointer (some ⟨b, r + 3, none⟩) :: .pointer (some ⟨b, r, none⟩) :: .pointer (some ⟨b, r, none⟩) :: .pointer (some ⟨b, r, none⟩) :: .pointer (some ⟨b, r + 5, none⟩) :: .slice oe le ce :: .pointer (some ⟨b, r, none⟩) :: .pointer (some ⟨b, r, none⟩) :: .pointer (some ⟨b, r + 5, none⟩) :: .slice oe le ce :: undef :: undef :: undef :: undef :: undef :: undef :: undef :: undef :: undef :: undef :: undef :: undef :: undef :: undef :: undef :: undef :: undef :: undef :: undef :: []).toArray, []⟩ ?_
    refine lateP 9 (.int .i64 (le : Int)) rfl (fun _ => ev_len70 26 oe le ce rfl (by kernel_rfl)) (fun _ => f0) ?_
    refine lateP 10 (.pointer (some ⟨b, r, none⟩)) rfl (fun _ => ev_move 8 _ rfl (by kernel_rfl)) (fun _ => f0) ?_
    refine lateP 11 (.pointer (some ⟨b, r, none⟩)) rfl (fun _ => ev_nil 28 ⟨b, r, none⟩ rfl (by kernel_rfl)) (fun _ => f0) ?_
    refine lateP 12 (.pointer (some ⟨b, r + 5, none⟩)) rfl (fun _ => ev_field 72 29 5 (.pointer (some ⟨b, r, none⟩)) _ rfl (by kernel_rfl) (by kernel_rfl)) (fun _ => f0) ?_
    refine lateN (true :: true :: true :: true :: true :: true :: true :: true :: true :: true :: true :: true :: true :: false :: false :: false :: false :: false :: false :: false :: false :: false :: false :: false :: false :: false :: false :: []).toArray ⟨(.pointer (some ⟨q, 0, none⟩) :: .int .i64 d.at_ :: .int .i64 t :: undef :: undef :: undef :: .int .i64 0 :: .int .i64 0 :: .pointer (some ⟨b, r, none⟩) :: .pointer (some ⟨q, 0, none⟩) :: .int .i64 d.at_ :: .int .i64 t :: .pointer (some ⟨b, r, none⟩) :: .pointer (some ⟨b, r, none⟩) :: .bool false :: .pointer (some ⟨b, r, none⟩) :: .pointer (some ⟨b, r, none⟩) :: .pointer (some ⟨b, r + 3, none⟩) :: .pointer (some ⟨b, r, none⟩) :: .pointer (some ⟨b, r, none⟩) :: .pointer (some ⟨b, r, none⟩) :: .pointer (some ⟨b, r + 5, none⟩) :: .slice oe le ce :: .pointer (some ⟨b, r, none⟩) :: .pointer (some ⟨b, r, none⟩) :: .pointer (some ⟨b, r + 5, none⟩) :: .slice oe le ce :: .int .i64 (le : Int) :: .pointer (some ⟨b, r, none⟩) :: .pointer (some ⟨b, r, none⟩) :: .pointer (some ⟨b, r + 5, none⟩) :: undef :: undef :: undef :: undef :: undef :: undef :: undef :: undef :: undef :: undef :: undef :: undef :: undef :: undef :: undef :: []).toArray, []⟩ ?_
    refine lateT 13 (.slice oe le ce) rfl (fun wz hz => ev_load 70 30 (.pointer (some ⟨b, r + 5, none⟩)) (.slice oe le ce) rfl (by kernel_rfl) (ld70 (HC5.out wz hz))) f0 ?_
    refine lateN (true :: true :: true :: true :: true :: true :: true :: true :: true :: true :: true :: true :: true :: true :: false :: false :: false :: false :: false :: false :: false :: false :: false :: false :: false :: false :: false :: []).toArray ⟨(.pointer (some ⟨q, 0, none⟩) :: .int .i64 d.at_ :: .int .i64 t :: undef :: undef :: undef :: .int .i64 0 :: .int .i64 0 :: .pointer (some ⟨b, r, none⟩) :: .pointer (some ⟨q, 0, none⟩) :: .int .i64 d.at_ :: .int .i64 t :: .pointer (some ⟨b, r, none⟩) :: .pointer (some ⟨b, r, none⟩) :: .bool false :: .pointer (some ⟨b, r, none⟩) :: .pointer (some ⟨b, r, none⟩) :: .pointer (some ⟨b, r + 3, none⟩) :: .pointer (some ⟨b, r, none⟩) :: .pointer (some ⟨b, r, none⟩) :: .pointer (some ⟨b, r, none⟩) :: .pointer (some ⟨b, r + 5, none⟩) :: .slice oe le ce :: .pointer (some ⟨b, r, none⟩) :: .pointer (some ⟨b, r, none⟩) :: .pointer (some ⟨b, r + 5, none⟩) :: .slice oe le ce :: .int .i64 (le : Int) :: .pointer (some ⟨b, r, none⟩) :: .pointer (some ⟨b, r, none⟩) :: .pointer (some ⟨b, r + 5, none⟩) :: .slice oe le ce :: undef :: undef :: undef :: undef :: undef :: undef :: undef :: undef :: undef :: undef :: undef :: undef :: undef :: undef :: []).toArray, []⟩ ?_
    refine lateP 14 (.int .i64 (le : Int)) rfl (fun _ => ev_len70 31 oe le ce rfl (by kernel_rfl)) (fun _ => f0) ?_
    refine lateP 15 (.slice oe le le) rfl (fun _ => ev_slice3 22 27 32 (.slice oe le ce) (.slice oe le le) (.int .i64 (le : Int)) (.int .i64 (le : Int)) rfl (by kernel_rfl) (by kernel_rfl) (by kernel_rfl) (HSL.out _)) (fun _ => f0) ?_
    refine lateN (true :: true :: true :: true :: true :: true :: true :: true :: true :: true :: true :: true :: true :: true :: true :: true :: false :: false :: false :: false :: false :: false :: false :: false :: false :: false :: false :: []).toArray ⟨(.pointer (some ⟨q, 0, none⟩) :: .int .i64 d.at_ :: .int .i64 t :: undef :: undef :: undef :: .int .i64 0 :: .int .i64 0 :: .pointer (some ⟨b, r, none⟩) :: .pointer (some ⟨q, 0, none⟩) :: .int .i64 d.at_ :: .int .i64 t :: .pointer (some ⟨b, r, none⟩) :: .pointer (some ⟨b, r, none⟩) :: .bool false :: .pointer (some ⟨b, r, none⟩) :: .pointer (some ⟨b, r, none⟩) :: .pointer (some ⟨b, r + 3, none⟩) :: .pointer (some ⟨b, r, none⟩) :: .pointer (some ⟨b, r, none⟩) :: .pointer (some ⟨b, r, none⟩) :: .pointer (some ⟨b, r + 5, none⟩) :: .slice oe le ce :: .pointer (some ⟨b, r, none⟩) :: .pointer (some ⟨b, r, none⟩) :: .pointer (some ⟨b, r + 5, none⟩) :: .slice oe le ce :: .int .i64 (le : Int) :: .pointer (some ⟨b, r, none⟩) :: .pointer (some ⟨b, r, none⟩) :: .pointer (some ⟨b, r + 5, none⟩) :: .slice oe le ce :: .int .i64 (le : Int) :: .slice oe le le :: undef :: undef :: undef :: undef :: undef :: undef :: undef :: undef :: undef :: undef :: undef :: undef :: []).toArray, []⟩ ?_
    refine lateP 16 (.int .i64 t) rfl (fun _ => ev_move 2 _ rfl (by kernel_rfl)) (fun _ => f0) ?_
    refine lateP 17 (.pointer (some ⟨b, r, none⟩)) rfl (fun _ => ev_move 8 _ rfl (by kernel_rfl)) (fun _ => f0) ?_
    refine lateP 18 (.pointer (some ⟨b, r, none⟩)) rfl (fun _ => ev_nil 35 ⟨b, r, none⟩ rfl (by kernel_rfl)) (fun _ => f0) ?_
    refine lateP 19 (.pointer (some ⟨b, r + 2, none⟩)) rfl (fun _ => ev_field 72 36 2 (.pointer (some ⟨b, r, none⟩)) _ rfl (by kernel_rfl) (by kernel_rfl)) (fun _ => f0) ?_
    refine lateN (true :: true :: true :: true :: true :: true :: true :: true :: true :: true :: true :: true :: true :: true :: true :: true :: true :: true :: true :: true :: false :: false :: false :: false :: false :: false :: false :: []).toArray ⟨(.pointer (some ⟨q, 0, none⟩) :: .int .i64 d.at_ :: .int .i64 t :: undef :: undef :: undef :: .int .i64 0 :: .int .i64 0 :: .pointer (some ⟨b, r, none⟩) :: .pointer (some ⟨q, 0, none⟩) :: .int .i64 d.at_ :: .int .i64 t :: .pointer (some ⟨b, r, none⟩) :: .pointer (some ⟨b, r, none⟩) :: .bool false :: .pointer (some ⟨b, r, none⟩) :: .pointer (some ⟨b, r, none⟩) :: .pointer (some ⟨b, r + 3, none⟩) :: .pointer (some ⟨b, r, none⟩) :: .pointer (some ⟨b, r, none⟩) :: .pointer (some ⟨b, r, none⟩) :: .pointer (some ⟨b, r + 5, none⟩) :: .slice oe le ce :: .pointer (some ⟨b, r, none⟩) :: .pointer (some ⟨b, r, none⟩) :: .pointer (some ⟨b, r + 5, none⟩) :: .slice oe le ce :: .int .i64 (le : Int) :: .pointer (some ⟨b, r, none⟩) :: .pointer (some ⟨b, r, none⟩) :: .pointer (some ⟨b, r + 5, none⟩) :: .slice oe le ce :: .int .i64 (le : Int) :: .slice oe le le :: .int .i64 t :: .pointer (some ⟨b, r, none⟩) :: .pointer (some ⟨b, r, none⟩) :: .pointer (some ⟨b, r + 2, none⟩) :: undef :: undef :: undef :: undef :: undef :: undef :: undef :: undef :: []).toArray, []⟩ ?_
    refine lateT 20 (.int .i64 ct) rfl (fun wz hz => ev_load 3 37 (.pointer (some ⟨b, r + 2, none⟩)) (.int .i64 ct) rfl (by kernel_rfl) (ld3 (HC2.out wz hz))) f0 ?_
    refine lateN (true :: true :: true :: true :: true :: true :: true :: true :: true :: true :: true :: true :: true :: true :: true :: true :: true :: true :: true :: true :: true :: false :: false :: false :: false :: false :: false :: []).toArray ⟨(.pointer (some ⟨q, 0, none⟩) :: .int .i64 d.at_ :: .int .i64 t :: undef :: undef :: undef :: .int .i64 0 :: .int .i64 0 :: .pointer (some ⟨b, r, none⟩) :: .pointer (some ⟨q, 0, none⟩) :: .int .i64 d.at_ :: .int .i64 t :: .pointer (some ⟨b, r, none⟩) :: .pointer (some ⟨b, r, none⟩) :: .bool false :: .pointer (some ⟨b, r, none⟩) :: .pointer (some ⟨b, r, none⟩) :: .pointer (some ⟨b, r + 3, none⟩) :: .pointer (some ⟨b, r, none⟩) :: .pointer (some ⟨b, r, none⟩) :: .pointer (some ⟨b, r, none⟩) :: .pointer (some ⟨b, r + 5, none⟩) :: .slice oe le ce :: .pointer (some ⟨b, r, none⟩) :: .pointer (some ⟨b, r, none⟩) :: .pointer (some ⟨b, r + 5, none⟩) :: .slice oe le ce :: .int .i64 (le : Int) :: .pointer (some ⟨b, r, none⟩) :: .pointer (some ⟨b, r, none⟩) :: .pointer (some ⟨b, r + 5, none⟩) :: .slice oe le ce :: .int .i64 (le : Int) :: .slice oe le le :: .int .i64 t :: .pointer (some ⟨b, r, none⟩) :: .pointer (some ⟨b, r, none⟩) :: .pointer (some ⟨b, r + 2, none⟩) :: .int .i64 ct :: undef :: undef :: undef :: undef :: undef :: undef :: undef :: []).toArray, []⟩ ?_
    refine lateP 21 (.agg #[.int .i64 t, .int .i64 ct]) rfl (fun _ => by kernel_rfl) (fun _ => f0) ?_
    refine lateN (true :: true :: true :: true :: true :: true :: true :: true :: true :: true :: true :: true :: true :: true :: true :: true :: true :: true :: true :: true :: true :: true :: false :: false :: false :: false :: false :: []).toArray ⟨(.pointer (some ⟨q, 0, none⟩) :: .int .i64 d.at_ :: .int .i64 t :: undef :: undef :: undef :: .int .i64 0 :: .int .i64 0 :: .pointer (some ⟨b, r, none⟩) :: .pointer (some ⟨q, 0, none⟩) :: .int .i64 d.at_ :: .int .i64 t :: .pointer (some ⟨b, r, none⟩) :: .pointer (some ⟨b, r, none⟩) :: .bool false :: .pointer (some ⟨b, r, none⟩) :: .pointer (some ⟨b, r, none⟩) :: .pointer (some ⟨b, r + 3, none⟩) :: .pointer (some ⟨b, r, none⟩) :: .pointer (some ⟨b, r, none⟩) :: .pointer (some ⟨b, r, none⟩) :: .pointer (some ⟨b, r + 5, none⟩) :: .slice oe le ce :: .pointer (some ⟨b, r, none⟩) :: .pointer (some ⟨b, r, none⟩) :: .pointer (some ⟨b, r + 5, none⟩) :: .slice oe le ce :: .int .i64 (le : Int) :: .pointer (some ⟨b, r, none⟩) :: .pointer (some ⟨b, r, none⟩) :: .pointer (some ⟨b, r + 5, none⟩) :: .slice oe le ce :: .int .i64 (le : Int) :: .slice oe le le :: .int .i64 t :: .pointer (some ⟨b, r, none⟩) :: .pointer (some ⟨b, r, none⟩) :: .pointer (some ⟨b, r + 2, none⟩) :: .int .i64 ct :: .agg #[.int .i64 t, .int .i64 ct] :: undef :: undef :: undef :: undef :: undef :: undef :: []).toArray, []⟩ ?_
    refine late_all [22] (by kernel_rfl) (by simp) (fun jj hjj => ?_)
    simp only [List.mem_singleton] at hjj
    subst hjj
    refine late_op rfl rfl (ev_lit75 39 (t) (ct) W.heap.size rfl rfl (by kernel_rfl)) ?_
    have f1 : Fr no W (W.drew.alloc (.cells #[.int .i64 t, .int .i64 ct] 75)) := f0.alloc _ _
    refine ⟨fun _ => f1, ?_⟩
    refine lateN (true :: true :: true :: true :: true :: true :: true :: true :: true :: true :: true :: true :: true :: true :: true :: true :: true :: true :: true :: true :: true :: true :: true :: false :: false :: false :: false :: []).toArray ⟨(.pointer (some ⟨q, 0, none⟩) :: .int .i64 d.at_ :: .int .i64 t :: undef :: undef :: undef :: .int .i64 0 :: .int .i64 0 :: .pointer (some ⟨b, r, none⟩) :: .pointer (some ⟨q, 0, none⟩) :: .int .i64 d.at_ :: .int .i64 t :: .pointer (some ⟨b, r, none⟩) :: .pointer (some ⟨b, r, none⟩) :: .bool false :: .pointer (some ⟨b, r, none⟩) :: .pointer (some ⟨b, r, none⟩) :: .pointer (some ⟨b, r + 3, none⟩) :: .pointer (some ⟨b, r, none⟩) :: .pointer (some ⟨b, r, none⟩) :: .pointer (some ⟨b, r, none⟩) :: .pointer (some ⟨b, r + 5, none⟩) :: .slice oe le ce :: .pointer (some ⟨b, r, none⟩) :: .pointer (some ⟨b, r, none⟩) :: .pointer (some ⟨b, r + 5, none⟩) :: .slice oe le ce :: .int .i64 (le : Int) :: .pointer (some ⟨b, r, none⟩) :: .pointer (some ⟨b, r, none⟩) :: .pointer (some ⟨b, r + 5, none⟩) :: .slice oe le ce :: .int .i64 (le : Int) :: .slice oe le le :: .int .i64 t :: .pointer (some ⟨b, r, none⟩) :: .pointer (some ⟨b, r, none⟩) :: .pointer (some ⟨b, r + 2, none⟩) :: .int .i64 ct :: .agg #[.int .i64 t, .int .i64 ct] :: .slice (some ⟨W.heap.size, 0, none⟩) 1 1 :: undef :: undef :: undef :: undef :: undef :: []).toArray, []⟩ ?_
    refine late_all [23] (by kernel_rfl) (by simp) (fun jj hjj => ?_)
    simp only [List.mem_singleton] at hjj
    subst hjj
    have hs1 := ((own_lit elD_ok W.drew [(t, ct)] #[.int .i64 t, .int .i64 ct] rfl (by unfold maxLen; simp))).sl.src elD_ok
    obtain ⟨v2, w2, hrun, o2, g2, -⟩ := run_apdF elD_ok (W.drew.alloc (.cells #[.int .i64 t, .int .i64 ct] 75)) oe le (d.x.wait) (HO.out.keep f1) _ [(t, ct)] hs1 (by simp) HLB.out
    have f2 := f1.and g2
    obtain ⟨ov, lf, cv, rfl, c3, z3, T4⟩ := LEM.out v2 w2 o2 f2
    refine late_op rfl rfl (ev_append 70 33 40 _ _ _ _ rfl rfl (by kernel_rfl) (by kernel_rfl) hrun) ?_
    refine ⟨fun _ => f2, ?_⟩
    refine lateN (true :: true :: true :: true :: true :: true :: true :: true :: true :: true :: true :: true :: true :: true :: true :: true :: true :: true :: true :: true :: true :: true :: true :: true :: false :: false :: false :: []).toArray ⟨(.pointer (some ⟨q, 0, none⟩) :: .int .i64 d.at_ :: .int .i64 t :: undef :: undef :: undef :: .int .i64 0 :: .int .i64 0 :: .pointer (some ⟨b, r, none⟩) :: .pointer (some ⟨q, 0, none⟩) :: .int .i64 d.at_ :: .int .i64 t :: .pointer (some ⟨b, r, none⟩) :: .pointer (some ⟨b, r, none⟩) :: .bool false :: .pointer (some ⟨b, r, none⟩) :: .pointer (some ⟨b, r, none⟩) :: .pointer (some ⟨b, r + 3, none⟩) :: .pointer (some ⟨b, r, none⟩) :: .pointer (some ⟨b, r, none⟩) :: .pointer (some ⟨b, r, none⟩) :: .pointer (some ⟨b, r + 5, none⟩) :: .slice oe le ce :: .pointer (some ⟨b, r, none⟩) :: .pointer (some ⟨b, r, none⟩) :: .pointer (some ⟨b, r + 5, none⟩) :: .slice oe le ce :: .int .i64 (le : Int) :: .pointer (some ⟨b, r, none⟩) :: .pointer (some ⟨b, r, none⟩) :: .pointer (some ⟨b, r + 5, none⟩) :: .slice oe le ce :: .int .i64 (le : Int) :: .slice oe le le :: .int .i64 t :: .pointer (some ⟨b, r, none⟩) :: .pointer (some ⟨b, r, none⟩) :: .pointer (some ⟨b, r + 2, none⟩) :: .int .i64 ct :: .agg #[.int .i64 t, .int .i64 ct] :: .slice (some ⟨W.heap.size, 0, none⟩) 1 1 :: .slice ov lf cv :: undef :: undef :: undef :: undef :: []).toArray, []⟩ ?_
    refine lateP 24 (.pointer (some ⟨b, r, none⟩)) rfl (fun _ => ev_nil 18 ⟨b, r, none⟩ rfl (by kernel_rfl)) (fun _ => f2) ?_
    refine lateP 25 (.pointer (some ⟨b, r + 5, none⟩)) rfl (fun _ => ev_field 72 42 5 (.pointer (some ⟨b, r, none⟩)) _ rfl (by kernel_rfl) (by kernel_rfl)) (fun _ => f2) ?_
    refine lateN (true :: true :: true :: true :: true :: true :: true :: true :: true :: true :: true :: true :: true :: true :: true :: true :: true :: true :: true :: true :: true :: true :: true :: true :: true :: true :: false :: []).toArray ⟨(.pointer (some ⟨q, 0, none⟩) :: .int .i64 d.at_ :: .int .i64 t :: undef :: undef :: undef :: .int .i64 0 :: .int .i64 0 :: .pointer (some ⟨b, r, none⟩) :: .pointer (some ⟨q, 0, none⟩) :: .int .i64 d.at_ :: .int .i64 t :: .pointer (some ⟨b, r, none⟩) :: .pointer (some ⟨b, r, none⟩) :: .bool false :: .pointer (some ⟨b, r, none⟩) :: .pointer (some ⟨b, r, none⟩) :: .pointer (some ⟨b, r + 3, none⟩) :: .pointer (some ⟨b, r, none⟩) :: .pointer (some ⟨b, r, none⟩) :: .pointer (some ⟨b, r, none⟩) :: .pointer (some ⟨b, r + 5, none⟩) :: .slice oe le ce :: .pointer (some ⟨b, r, none⟩) :: .pointer (some ⟨b, r, none⟩) :: .pointer (some ⟨b, r + 5, none⟩) :: .slice oe le ce :: .int .i64 (le : Int) :: .pointer (some ⟨b, r, none⟩) :: .pointer (some ⟨b, r, none⟩) :: .pointer (some ⟨b, r + 5, none⟩) :: .slice oe le ce :: .int .i64 (le : Int) :: .slice oe le le :: .int .i64 t :: .pointer (some ⟨b, r, none⟩) :: .pointer (some ⟨b, r, none⟩) :: .pointer (some ⟨b, r + 2, none⟩) :: .int .i64 ct :: .agg #[.int .i64 t, .int .i64 ct] :: .slice (some ⟨W.heap.size, 0, none⟩) 1 1 :: .slice ov lf cv :: .pointer (some ⟨b, r, none⟩) :: .pointer (some ⟨b, r + 5, none⟩) :: undef :: undef :: []).toArray, []⟩ ?_
    refine late_all [26] (by kernel_rfl) (by simp) (fun jj hjj => ?_)
    simp only [List.mem_singleton] at hjj
    subst hjj
    refine late_skip rfl (by kernel_rfl) (ev_store 70 43 41 (.pointer (some ⟨b, r + 5, none⟩)) (.slice ov lf cv) _ rfl (by kernel_rfl) (by kernel_rfl) (st70 c3 z3)) ?_
    refine ⟨fun h => by simp at h, ?_⟩
    refine lateN (true :: true :: true :: true :: true :: true :: true :: true :: true :: true :: true :: true :: true :: true :: true :: true :: true :: true :: true :: true :: true :: true :: true :: true :: true :: true :: true :: []).toArray ⟨(.pointer (some ⟨q, 0, none⟩) :: .int .i64 d.at_ :: .int .i64 t :: undef :: undef :: undef :: .int .i64 0 :: .int .i64 0 :: .pointer (some ⟨b, r, none⟩) :: .pointer (some ⟨q, 0, none⟩) :: .int .i64 d.at_ :: .int .i64 t :: .pointer (some ⟨b, r, none⟩) :: .pointer (some ⟨b, r, none⟩) :: .bool false :: .pointer (some ⟨b, r, none⟩) :: .pointer (some ⟨b, r, none⟩) :: .pointer (some ⟨b, r + 3, none⟩) :: .pointer (some ⟨b, r, none⟩) :: .pointer (some ⟨b, r, none⟩) :: .pointer (some ⟨b, r, none⟩) :: .pointer (some ⟨b, r + 5, none⟩) :: .slice oe le ce :: .pointer (some ⟨b, r, none⟩) :: .pointer (some ⟨b, r, none⟩) :: .pointer (some ⟨b, r + 5, none⟩) :: .slice oe le ce :: .int .i64 (le : Int) :: .pointer (some ⟨b, r, none⟩) :: .pointer (some ⟨b, r, none⟩) :: .pointer (some ⟨b, r + 5, none⟩) :: .slice oe le ce :: .int .i64 (le : Int) :: .slice oe le le :: .int .i64 t :: .pointer (some ⟨b, r, none⟩) :: .pointer (some ⟨b, r, none⟩) :: .pointer (some ⟨b, r + 2, none⟩) :: .int .i64 ct :: .agg #[.int .i64 t, .int .i64 ct] :: .slice (some ⟨W.heap.size, 0, none⟩) 1 1 :: .slice ov lf cv :: .pointer (some ⟨b, r, none⟩) :: .pointer (some ⟨b, r + 5, none⟩) :: undef :: undef :: []).toArray, []⟩ ?_
    refine late_done (by kernel_rfl) ?_
    refine hK2 _ _ ?_
    revert T4
    generalize w2.setCell ⟨b, r + 5, none⟩ (.slice ov lf cv) = V
    intro T4
    clear c3 z3 HC5 HC2 HSL HO LEM hs1 hrun o2 f2 f1 g2 f0
    obtain ⟨d', x1, x2, x3, f4⟩ := T4.out
    have OV := dOver_any x1
    have HF : Hid (Fr (Td c w) w V ∧ d'.at_ = d.at_ ∧ d'.x = waitL t d.x) := ⟨f4, x2, x3⟩
    clear T4 x1 x2 x3 f4
    go_wp2_with fail
    refine OV.mono ?_
    rintro _ w3 ⟨rfl, ⟨d2, y1, y2, y3⟩, f2⟩
    have HZ : Hid (DB c w3 q ((told D).set i (d.at_, overL (waitL t d.x))) ∧ Fr (Td c w) w w3) := by
      refine ⟨?_, HF.out.1.td f2⟩
      have := y1.db
      rw [y2, y3, HF.out.2.1, HF.out.2.2, told_set, List.set_set] at this
      exact this
    have HV : Hid (handR d'.x = handR d.x) := by
      show _ = _
      rw [HF.out.2.2]
      rfl
    clear OV y1 y2 y3 f2 HF
    go_wp2_with fail
    go_ret2
    exact ⟨by rw [HV.out]; rfl, HZ.out⟩
end Go.Proofs.Ytkkpimpmhnnbjaa
