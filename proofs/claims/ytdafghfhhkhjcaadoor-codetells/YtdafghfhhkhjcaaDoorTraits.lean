/- Whether an op stops, jumps or may fault: the program's answers, and the document's. -/
import Derived.Test.YtdafghfhhkhjcaaDoorAsks
namespace Go.Proofs.YtdafghfhhkhjcaaDoor
open Go.ChangeShapes Go.WideShapes Go.ChangeAt Go.RowKit

/-- Whether an op does that. -/
def has (op t : Int) : Bool := decide (0 ≤ op ∧ op < 48) && !(bits .and .u8 (trt op.toNat) t == 0)

theorem has_out (op t : Int) (h : ¬ (0 ≤ op ∧ op < 48)) : has op t = false := by unfold has; rw [decide_eq_false h]; rfl
theorem has_in (n : Nat) (t : Int) (h : n < 48) : has (n : Int) t = !(bits .and .u8 (trt n) t == 0) := by
  unfold has
  rw [decide_eq_true (by omega)]
  simp

set_option maxRecDepth 100000 in
theorem does_any (w : World) (h : Tr w) (op t : Int) : Calls Tryd.prog 27 #[.int .i64 op, .int .u8 t] w fun e w' => e = .returned (.bool (has op t)) ∧ w' = w := by
  by_cases hr : 0 ≤ op ∧ op < 48
  · obtain ⟨n, rfl⟩ : ∃ n : Nat, op = (n : Int) := ⟨op.toNat, by omega⟩
    have hn : n < 48 := by omega
    have hc := h n hn
    have I := isop_any w (n : Int)
    rw [decide_eq_true hr] at I
    have HI : Hid (has (n : Int) t = !(bits .and .u8 (trt n) t == 0)) := has_in n t hn
    generalize trt n = k at *
    clear h hr
    go_enter Tryd.func27, Tryd.ntmps27
    go_wp2_with fail
    refine I.mono ?_
    rintro e w' ⟨rfl, rfl⟩
    go_wp2_with fail
    go_ret
    exact ⟨by rw [HI.out]; rfl, rfl⟩
  · have I := isop_any w op
    rw [decide_eq_false hr] at I
    rw [has_out op t hr]
    clear h hr
    go_enter Tryd.func27, Tryd.ntmps27
    go_wp2_with fail
    refine I.mono ?_
    rintro e w' ⟨rfl, rfl⟩
    go_wp2_with fail
    go_ret
    exact ⟨rfl, rfl⟩

theorem stops_any (w : World) (h : Tr w) (op : Int) : Calls Tryd.prog 13 #[.int .i64 op] w fun e w' => e = .returned (.bool (has op 1)) ∧ w' = w := by
  have D := does_any w h op 1
  go_enter Tryd.func13, Tryd.ntmps13
  go_wp2_with fail
  refine D.mono ?_
  rintro e w' ⟨rfl, rfl⟩
  go_wp2_with fail
  go_ret
  exact ⟨rfl, rfl⟩

theorem jumps_any (w : World) (h : Tr w) (op : Int) : Calls Tryd.prog 15 #[.int .i64 op] w fun e w' => e = .returned (.bool (has op 2)) ∧ w' = w := by
  have D := does_any w h op 2
  go_enter Tryd.func15, Tryd.ntmps15
  go_wp2_with fail
  refine D.mono ?_
  rintro e w' ⟨rfl, rfl⟩
  go_wp2_with fail
  go_ret
  exact ⟨rfl, rfl⟩

theorem faults_any (w : World) (h : Tr w) (op : Int) : Calls Tryd.prog 17 #[.int .i64 op] w fun e w' => e = .returned (.bool (has op 4)) ∧ w' = w := by
  have D := does_any w h op 4
  go_enter Tryd.func17, Tryd.ntmps17
  go_wp2_with fail
  refine D.mono ?_
  rintro e w' ⟨rfl, rfl⟩
  go_wp2_with fail
  go_ret
  exact ⟨rfl, rfl⟩

theorem docStops_any (w : World) (op : Int) : Calls Tryd.prog 14 #[.int .i64 op] w fun e w' => e = .returned (.bool (has op 1)) ∧ w' = w := by
  by_cases e22 : op = 22
  · subst e22
    go_enter Tryd.func14, Tryd.ntmps14
    go_wp2_with fail
    go_ret
    exact ⟨rfl, rfl⟩
  by_cases e33 : op = 33
  · subst e33
    go_enter Tryd.func14, Tryd.ntmps14
    go_wp2_with fail
    go_ret
    exact ⟨rfl, rfl⟩
  by_cases e34 : op = 34
  · subst e34
    go_enter Tryd.func14, Tryd.ntmps14
    go_wp2_with fail
    go_ret
    exact ⟨rfl, rfl⟩
  by_cases e35 : op = 35
  · subst e35
    go_enter Tryd.func14, Tryd.ntmps14
    go_wp2_with fail
    go_ret
    exact ⟨rfl, rfl⟩
  have HE : Hid (has op 1 = false) := by
    show _ = _
    by_cases hr : 0 ≤ op ∧ op < 48
    · obtain ⟨n, rfl⟩ : ∃ n : Nat, op = (n : Int) := ⟨op.toNat, by omega⟩
      have hn : n < 48 := by omega
      rw [has_in n 1 hn]
      have key : ∀ d : Fin 48, d.val ∉ [22, 33, 34, 35] → (!(bits .and .u8 (trt d.val) 1 == 0)) = false := by decide +kernel
      refine key ⟨n, hn⟩ ?_
      simp only [List.mem_cons, List.not_mem_nil, or_false, not_or]
      omega
    · exact has_out op 1 hr
  have q22 : (op == 22) = false := by simpa using e22
  have q33 : (op == 33) = false := by simpa using e33
  have q34 : (op == 34) = false := by simpa using e34
  have q35 : (op == 35) = false := by simpa using e35
  clear e22 e33 e34 e35
  go_enter Tryd.func14, Tryd.ntmps14
  go_wp2_with fail
  go_ret
  exact ⟨by rw [HE.out]; rfl, rfl⟩

theorem docJumps_any (w : World) (op : Int) : Calls Tryd.prog 16 #[.int .i64 op] w fun e w' => e = .returned (.bool (has op 2)) ∧ w' = w := by
  by_cases e22 : op = 22
  · subst e22
    go_enter Tryd.func16, Tryd.ntmps16
    go_wp2_with fail
    go_ret
    exact ⟨rfl, rfl⟩
  by_cases e23 : op = 23
  · subst e23
    go_enter Tryd.func16, Tryd.ntmps16
    go_wp2_with fail
    go_ret
    exact ⟨rfl, rfl⟩
  by_cases e24 : op = 24
  · subst e24
    go_enter Tryd.func16, Tryd.ntmps16
    go_wp2_with fail
    go_ret
    exact ⟨rfl, rfl⟩
  have HE : Hid (has op 2 = false) := by
    show _ = _
    by_cases hr : 0 ≤ op ∧ op < 48
    · obtain ⟨n, rfl⟩ : ∃ n : Nat, op = (n : Int) := ⟨op.toNat, by omega⟩
      have hn : n < 48 := by omega
      rw [has_in n 2 hn]
      have key : ∀ d : Fin 48, d.val ∉ [22, 23, 24] → (!(bits .and .u8 (trt d.val) 2 == 0)) = false := by decide +kernel
      refine key ⟨n, hn⟩ ?_
      simp only [List.mem_cons, List.not_mem_nil, or_false, not_or]
      omega
    · exact has_out op 2 hr
  have q22 : (op == 22) = false := by simpa using e22
  have q23 : (op == 23) = false := by simpa using e23
  have q24 : (op == 24) = false := by simpa using e24
  clear e22 e23 e24
  go_enter Tryd.func16, Tryd.ntmps16
  go_wp2_with fail
  go_ret
  exact ⟨by rw [HE.out]; rfl, rfl⟩

theorem docFaults_any (w : World) (op : Int) : Calls Tryd.prog 18 #[.int .i64 op] w fun e w' => e = .returned (.bool (has op 4)) ∧ w' = w := by
  by_cases e11 : op = 11
  · subst e11
    go_enter Tryd.func18, Tryd.ntmps18
    go_wp2_with fail
    go_ret
    exact ⟨rfl, rfl⟩
  by_cases e12 : op = 12
  · subst e12
    go_enter Tryd.func18, Tryd.ntmps18
    go_wp2_with fail
    go_ret
    exact ⟨rfl, rfl⟩
  by_cases e26 : op = 26
  · subst e26
    go_enter Tryd.func18, Tryd.ntmps18
    go_wp2_with fail
    go_ret
    exact ⟨rfl, rfl⟩
  by_cases e27 : op = 27
  · subst e27
    go_enter Tryd.func18, Tryd.ntmps18
    go_wp2_with fail
    go_ret
    exact ⟨rfl, rfl⟩
  by_cases e28 : op = 28
  · subst e28
    go_enter Tryd.func18, Tryd.ntmps18
    go_wp2_with fail
    go_ret
    exact ⟨rfl, rfl⟩
  by_cases e29 : op = 29
  · subst e29
    go_enter Tryd.func18, Tryd.ntmps18
    go_wp2_with fail
    go_ret
    exact ⟨rfl, rfl⟩
  by_cases e30 : op = 30
  · subst e30
    go_enter Tryd.func18, Tryd.ntmps18
    go_wp2_with fail
    go_ret
    exact ⟨rfl, rfl⟩
  by_cases e31 : op = 31
  · subst e31
    go_enter Tryd.func18, Tryd.ntmps18
    go_wp2_with fail
    go_ret
    exact ⟨rfl, rfl⟩
  by_cases e32 : op = 32
  · subst e32
    go_enter Tryd.func18, Tryd.ntmps18
    go_wp2_with fail
    go_ret
    exact ⟨rfl, rfl⟩
  by_cases e35 : op = 35
  · subst e35
    go_enter Tryd.func18, Tryd.ntmps18
    go_wp2_with fail
    go_ret
    exact ⟨rfl, rfl⟩
  by_cases e36 : op = 36
  · subst e36
    go_enter Tryd.func18, Tryd.ntmps18
    go_wp2_with fail
    go_ret
    exact ⟨rfl, rfl⟩
  by_cases e38 : op = 38
  · subst e38
    go_enter Tryd.func18, Tryd.ntmps18
    go_wp2_with fail
    go_ret
    exact ⟨rfl, rfl⟩
  by_cases e40 : op = 40
  · subst e40
    go_enter Tryd.func18, Tryd.ntmps18
    go_wp2_with fail
    go_ret
    exact ⟨rfl, rfl⟩
  by_cases e41 : op = 41
  · subst e41
    go_enter Tryd.func18, Tryd.ntmps18
    go_wp2_with fail
    go_ret
    exact ⟨rfl, rfl⟩
  by_cases e42 : op = 42
  · subst e42
    go_enter Tryd.func18, Tryd.ntmps18
    go_wp2_with fail
    go_ret
    exact ⟨rfl, rfl⟩
  by_cases e43 : op = 43
  · subst e43
    go_enter Tryd.func18, Tryd.ntmps18
    go_wp2_with fail
    go_ret
    exact ⟨rfl, rfl⟩
  by_cases e44 : op = 44
  · subst e44
    go_enter Tryd.func18, Tryd.ntmps18
    go_wp2_with fail
    go_ret
    exact ⟨rfl, rfl⟩
  by_cases e25 : op = 25
  · subst e25
    go_enter Tryd.func18, Tryd.ntmps18
    go_wp2_with fail
    go_ret
    exact ⟨rfl, rfl⟩
  have HE : Hid (has op 4 = false) := by
    show _ = _
    by_cases hr : 0 ≤ op ∧ op < 48
    · obtain ⟨n, rfl⟩ : ∃ n : Nat, op = (n : Int) := ⟨op.toNat, by omega⟩
      have hn : n < 48 := by omega
      rw [has_in n 4 hn]
      have key : ∀ d : Fin 48, d.val ∉ [11, 12, 26, 27, 28, 29, 30, 31, 32, 35, 36, 38, 40, 41, 42, 43, 44, 25] → (!(bits .and .u8 (trt d.val) 4 == 0)) = false := by decide +kernel
      refine key ⟨n, hn⟩ ?_
      simp only [List.mem_cons, List.not_mem_nil, or_false, not_or]
      omega
    · exact has_out op 4 hr
  have q11 : (op == 11) = false := by simpa using e11
  have q12 : (op == 12) = false := by simpa using e12
  have q26 : (op == 26) = false := by simpa using e26
  have q27 : (op == 27) = false := by simpa using e27
  have q28 : (op == 28) = false := by simpa using e28
  have q29 : (op == 29) = false := by simpa using e29
  have q30 : (op == 30) = false := by simpa using e30
  have q31 : (op == 31) = false := by simpa using e31
  have q32 : (op == 32) = false := by simpa using e32
  have q35 : (op == 35) = false := by simpa using e35
  have q36 : (op == 36) = false := by simpa using e36
  have q38 : (op == 38) = false := by simpa using e38
  have q40 : (op == 40) = false := by simpa using e40
  have q41 : (op == 41) = false := by simpa using e41
  have q42 : (op == 42) = false := by simpa using e42
  have q43 : (op == 43) = false := by simpa using e43
  have q44 : (op == 44) = false := by simpa using e44
  have q25 : (op == 25) = false := by simpa using e25
  clear e11 e12 e26 e27 e28 e29 e30 e31 e32 e35 e36 e38 e40 e41 e42 e43 e44 e25
  go_enter Tryd.func18, Tryd.ntmps18
  go_wp2_with fail
  go_ret
  exact ⟨by rw [HE.out]; rfl, rfl⟩
end Go.Proofs.YtdafghfhhkhjcaaDoor
