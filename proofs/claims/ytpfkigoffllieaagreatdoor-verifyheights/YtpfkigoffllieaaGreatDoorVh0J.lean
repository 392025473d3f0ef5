/- Pushes and pops: how high the stack is. -/
import Derived.Test.YtpfkigoffllieaaGreatDoorVlJ
namespace Go.Proofs.YtpfkigoffllieaaGreatDoor
open Go.ChangeShapes Go.WideShapes Go.ChangeAt Go.RowKit
open H (ky Owns MapOf ix NewV)

def hIns (b : Bool) : Int × Int := if b = true then (3, 0) else (6, 0)
def hst (s : Int × Bool) (b : Bool) : Int × Bool := (if b = true then s.1 + 1 else s.1 - 1, s.2 && decide (0 ≤ (if b = true then s.1 + 1 else s.1 - 1)) && decide ((if b = true then s.1 + 1 else s.1 - 1) ≤ 3))
def hgo (l : List Bool) (s : Int × Bool) : Int × Bool := l.foldl hst s

theorem hgo_false : ∀ (l : List Bool) (n : Int), (hgo l (n, false)).2 = false
  | [], _ => rfl
  | b :: l, n => by
    show (hgo l (hst (n, false) b)).2 = false
    have : hst (n, false) b = ((hst (n, false) b).1, false) := by simp [hst]
    rw [this]
    exact hgo_false l _

def x0 (k : Nat) : Stt := ⟨true, [⟨4, sMain⟩, top, top], List.replicate k (kT 5)⟩

theorem run_push (k : Nat) : runErr (ruleP 3) (3, 0) (x0 k) = 0 ∧ runS (ruleP 3) (3, 0) (x0 k) = x0 (k + 1) := by
  refine ⟨by simp [runErr, ruleP, readE], ?_⟩
  simp [runS, ruleP, x0, List.replicate_succ']
theorem run_pop (k : Nat) : runErr (ruleP 6) (6, 0) (x0 (k + 1)) = 0 ∧ runS (ruleP 6) (6, 0) (x0 (k + 1)) = x0 k := by
  refine ⟨by simp [runErr, ruleP, readE, x0, fitT, kT], ?_⟩
  simp [runS, ruleP, x0]
theorem run_low : runErr (ruleP 6) (6, 0) (x0 0) = 81 := by decide +kernel

theorem okL_h (b : Bool) (k : Nat) (hk : k ≤ 3) : OkL (hIns b) (x0 k) := by
  cases b
  · refine ⟨rfl, by decide, fun e => by simp [hIns] at e, by decide, fun e => by simp [hIns] at e, fun e => by simp [hIns] at e, by decide, by decide, by simp [hIns, ruleP, runS, x0], ?_⟩
    simp [hIns, ruleP, runS, x0]; omega
  · refine ⟨rfl, by decide, fun e => by simp [hIns] at e, by decide, fun e => by simp [hIns] at e, fun e => by simp [hIns] at e, by decide, by decide, by simp [hIns, ruleP, runS, x0], ?_⟩
    simp [hIns, ruleP, runS, x0]; omega

theorem line_h : ∀ (l : List Bool) (k : Nat), k ≤ 3 → lineOk 3 (l.map hIns) (x0 k) ∧ decide (lineE 3 (l.map hIns) (x0 k) = 0) = (hgo l ((k : Int), true)).2
  | [], k, hk => ⟨⟨rfl, by simp [x0], by simp [x0]; omega⟩, rfl⟩
  | true :: l, k, hk => by
    obtain ⟨r1, r2⟩ := run_push k
    have e1 : (runS (ruleP 3) (3, 0) (x0 k)).st.length = k + 1 := by rw [r2]; simp [x0]
    have hs : hst ((k : Int), true) true = (((k + 1 : Nat) : Int), decide (k + 1 ≤ 3)) := by
      have h0 : (0 : Int) ≤ (k : Int) + 1 := by omega
      have h1 : decide ((k : Int) + 1 ≤ 3) = decide (k + 1 ≤ 3) := by
        by_cases e : k + 1 ≤ 3
        · rw [decide_eq_true e, decide_eq_true (by omega)]
        · rw [decide_eq_false e, decide_eq_false (by omega)]
      simp [hst, h0, h1]
    have hg : hgo (true :: l) ((k : Int), true) = hgo l (((k + 1 : Nat) : Int), decide (k + 1 ≤ 3)) := by rw [← hs]; rfl
    by_cases hk3 : k + 1 ≤ 3
    · obtain ⟨i1, i2⟩ := line_h l (k + 1) hk3
      refine ⟨⟨okL_h true k hk, by decide +kernel, by decide +kernel, fun _ _ => ?_⟩, ?_⟩
      · show lineOk 3 (l.map hIns) (runS (ruleP 3) (3, 0) (x0 k))
        rw [r2]; exact i1
      · rw [hg, decide_eq_true hk3, ← i2]
        show decide ((if runErr (ruleP 3) (3, 0) (x0 k) ≠ 0 then runErr (ruleP 3) (3, 0) (x0 k) else if (3 : Int) < (runS (ruleP 3) (3, 0) (x0 k)).st.length then 81 else lineE 3 (l.map hIns) (runS (ruleP 3) (3, 0) (x0 k))) = 0) = _
        rw [if_neg (by rw [r1]; simp), e1, if_neg (by omega), r2]
    · refine ⟨⟨okL_h true k hk, by decide +kernel, by decide +kernel, fun _ h => ?_⟩, ?_⟩
      · exfalso
        apply h
        show (3 : Int) < (runS (ruleP 3) (3, 0) (x0 k)).st.length
        rw [e1]; omega
      · rw [hg, decide_eq_false hk3, hgo_false]
        show decide ((if runErr (ruleP 3) (3, 0) (x0 k) ≠ 0 then runErr (ruleP 3) (3, 0) (x0 k) else if (3 : Int) < (runS (ruleP 3) (3, 0) (x0 k)).st.length then 81 else lineE 3 (l.map hIns) (runS (ruleP 3) (3, 0) (x0 k))) = 0) = _
        rw [if_neg (by rw [r1]; simp), e1, if_pos (by omega)]
        rfl
  | false :: l, 0, hk => by
    refine ⟨⟨okL_h false 0 hk, by decide +kernel, by decide +kernel, fun h => ?_⟩, ?_⟩
    · exfalso
      have h' : runErr (ruleP 6) (6, 0) (x0 0) = 0 := h
      rw [run_low] at h'
      exact absurd h' (by decide)
    · have hg : hgo (false :: l) (((0 : Nat) : Int), true) = hgo l (-1, false) := rfl
      rw [hg, hgo_false]
      show decide ((if runErr (ruleP 6) (6, 0) (x0 0) ≠ 0 then runErr (ruleP 6) (6, 0) (x0 0) else _) = 0) = _
      rw [if_pos (by rw [run_low]; decide), run_low]
      rfl
  | false :: l, k + 1, hk => by
    obtain ⟨r1, r2⟩ := run_pop k
    have e1 : (runS (ruleP 6) (6, 0) (x0 (k + 1))).st.length = k := by rw [r2]; simp [x0]
    have hs : hst (((k + 1 : Nat) : Int), true) false = ((k : Int), true) := by
      have h0 : (k : Int) + 1 - 1 = (k : Int) := by omega
      have h1 : (k : Int) ≤ 3 := by omega
      simp [hst, h0, h1]
    have hg : hgo (false :: l) (((k + 1 : Nat) : Int), true) = hgo l ((k : Int), true) := by rw [← hs]; rfl
    obtain ⟨i1, i2⟩ := line_h l k (by omega)
    refine ⟨⟨okL_h false (k + 1) hk, by decide +kernel, by decide +kernel, fun _ _ => ?_⟩, ?_⟩
    · show lineOk 3 (l.map hIns) (runS (ruleP 6) (6, 0) (x0 (k + 1)))
      rw [r2]; exact i1
    · rw [hg, ← i2]
      show decide ((if runErr (ruleP 6) (6, 0) (x0 (k + 1)) ≠ 0 then runErr (ruleP 6) (6, 0) (x0 (k + 1)) else if (3 : Int) < (runS (ruleP 6) (6, 0) (x0 (k + 1))).st.length then 81 else lineE 3 (l.map hIns) (runS (ruleP 6) (6, 0) (x0 (k + 1)))) = 0) = _
      rw [if_neg (by rw [r1]; simp), e1, if_neg (by omega), r2]

def hcode (l : List Bool) : List (Int × Int) := l.map hIns ++ [(33, 0)]
theorem hcode_len (l : List Bool) : (hcode l).length = l.length + 1 := by simp [hcode]
theorem hcode_mem {l : List Bool} {x : Int × Int} (h : x ∈ hcode l) : x = (3, 0) ∨ x = (6, 0) ∨ x = (33, 0) := by
  simp only [hcode, List.mem_append, List.mem_map, List.mem_singleton] at h
  rcases h with ⟨b, -, rfl⟩ | rfl
  · cases b
    · exact .inr (.inl rfl)
    · exact .inl rfl
  · exact .inr (.inr rfl)

theorem ask_h (l : List Bool) (hl : l.length ≤ 30) : ∃ res, Asked 3 3 [top, top] (hcode l) [] (l.length + 2) res ∧ decide (res.1 = 0) = (hgo l (0, true)).2 := by
  obtain ⟨h1, h2⟩ := line_h l 0 (by omega)
  obtain ⟨ps, h3⟩ := settle_line 3 (hcode l) (l.map hIns) 0 (x0 0) (beg sMain [top, top] (hcode l).length) (l.length + 2) rfl (at_beg _ _ _ (by rw [hcode_len]; omega)) h1 (by simp)
  refine ⟨_, ⟨link_main 3 3 _ [] (by decide) (by rw [hcode_len]; omega) (by rw [hcode_len]; omega) rfl (fun x hx => ?_) ?_ rfl, fit_main _ _ _ _ nopool, .inr (.inl ⟨rfl, rfl⟩), by rw [hcode_len]; omega, by rw [hcode_len]; omega, fun x hx => ?_, h3⟩, h2⟩
  · have ci : ∀ n : Nat, ckIns [] 3 n (3, 0) = 0 ∧ ckIns [] 3 n (6, 0) = 0 ∧ ckIns [] 3 n (33, 0) = 0 := fun n => ⟨by kernel_rfl, by kernel_rfl, by kernel_rfl⟩
    rcases hcode_mem hx with rfl | rfl | rfl
    · exact (ci _).1
    · exact (ci _).2.1
    · exact (ci _).2.2
  · have : (hcode l).getD ((hcode l).length - 1) (0, 0) = (33, 0) := by
      rw [hcode_len, Nat.add_sub_cancel, List.getD_eq_getElem?_getD]
      simp [hcode]
    rw [this]
    decide +kernel
  · rcases hcode_mem hx with rfl | rfl | rfl <;> decide
end Go.Proofs.YtpfkigoffllieaaGreatDoor
