/- Rows of tokens, compared. -/
import Derived.Test.YtmpahllkbpofnaaPi
import Derived.Laws.Externs
namespace Go.Proofs.Ytmpahllkbpofnaa
open Go.ChangeShapes Go.WideShapes Go.ChangeAt Go.RowKit

theorem run_bits (a : Nat) (w : World) : (callFunc 45 #[.float .f64 a]).run Try.prog w = .ok (.value (.int .u64 (a : Int))) w := by
  rw [run_callFunc_extern (e := Extern.MathFloatBits.float64bits) Try.func45 (by kernel_rfl) (by kernel_rfl) (by kernel_rfl) (by kernel_rfl)]
  rfl
theorem bits_any (w : World) (re im : Nat) : Calls Try.prog 42 #[.complex .f64 re im] w fun e w' => e = .returned (.tuple #[.int .u64 re, .int .u64 im]) ∧ w' = w := by
  have hb := run_bits
  go_enter Try.func42, Try.ntmps42
  go_wp2
  go_ret2
  exact ⟨rfl, rfl⟩
def cEq (a b c d : Nat) : Bool := decide (a = c) && decide (b = d)
theorem csame_any (w : World) (a b c d : Nat) : Calls Try.prog 32 #[.complex .f64 a b, .complex .f64 c d] w fun e w' => e = .returned (.bool (cEq a b c d)) ∧ w' = w := by
  have B := bits_any
  by_cases h1 : a = c
  · by_cases h2 : b = d
    · have hc : cEq a b c d = true := by unfold cEq; rw [decide_eq_true h1, decide_eq_true h2]; rfl
      rw [hc]
      subst h1
      subst h2
      clear hc
      go_enter Try.func32, Try.ntmps32
      go_wp2_with fail
      refine (B w a b).mono ?_
      rintro _ _ ⟨rfl, rfl⟩
      go_wp2_with fail
      refine (B _ a b).mono ?_
      rintro _ _ ⟨rfl, rfl⟩
      go_wp2_with fail
      go_ret
      exact ⟨rfl, rfl⟩
    · have hc : cEq a b c d = false := by unfold cEq; rw [decide_eq_false h2, Bool.and_false]
      rw [hc]
      subst h1
      have e2 : ((b : Int) == (d : Int)) = false := by simp; omega
      clear hc h2
      go_enter Try.func32, Try.ntmps32
      go_wp2_with fail
      refine (B w a b).mono ?_
      rintro _ _ ⟨rfl, rfl⟩
      go_wp2_with fail
      refine (B _ a d).mono ?_
      rintro _ _ ⟨rfl, rfl⟩
      go_wp2_with fail
      go_ret
      exact ⟨rfl, rfl⟩
  · have hc : cEq a b c d = false := by unfold cEq; rw [decide_eq_false h1, Bool.false_and]
    rw [hc]
    have e1 : ((a : Int) == (c : Int)) = false := by simp; omega
    clear hc h1
    go_enter Try.func32, Try.ntmps32
    go_wp2_with fail
    refine (B w a b).mono ?_
    rintro _ _ ⟨rfl, rfl⟩
    go_wp2_with fail
    refine (B _ c d).mono ?_
    rintro _ _ ⟨rfl, rfl⟩
    go_wp2_with fail
    go_ret
    exact ⟨rfl, rfl⟩


/-- Tokens alike; at their places too, if so. -/
def tkSame (p : Bool) (x y : Tk) : Bool := decide (x.kind = y.kind) && ((x.text.toList == y.text.toList) && (decide (x.num = y.num) && (cEq x.re x.im y.re y.im && (!p || decide (x.at_ = y.at_)))))
def sameR (p : Bool) : List Tk → List Tk → Bool
  | [], [] => true
  | x :: l, y :: m => tkSame p x y && sameR p l m
  | _, _ => false

theorem sameR_len {p : Bool} : ∀ {l m : List Tk}, ¬ l.length = m.length → sameR p l m = false
  | [], [], h => absurd rfl h
  | [], _ :: _, _ => rfl
  | _ :: _, [], _ => rfl
  | x :: l, y :: m, h => by
    show (tkSame p x y && sameR p l m) = false
    rw [sameR_len (fun e => h (by simp [e])), Bool.and_false]

set_option maxRecDepth 100000 in
set_option maxHeartbeats 4000000 in
theorem same_any (w : World) (v u : Value) (l m : List Tk) (p : Bool) (hv : SlG elK w v l) (hu : SlG elK w u m) (hl : l.length ≤ 50000) :
    Calls Try.prog 11 #[v, u, .bool p] w fun e w' => e = .returned (.bool (sameR p l m)) ∧ Fr no w w' := by
  generalize hR : sameR p l m = R
  have HR : Hid (sameR p l m = R) := hR
  clear hR
  obtain ⟨oo, cc, rfl⟩ := hv.form
  obtain ⟨pp, dd, rfl⟩ := hu.form
  have HV : Hid (SlG elK w (.slice oo l.length cc) l) := hv
  have HU : Hid (SlG elK w (.slice pp m.length dd) m) := hu
  clear hv hu
  by_cases hlen : l.length = m.length
  · have hq : ((l.length : Int) != (m.length : Int)) = false := by simp [hlen]
    have HLEN : Hid (l.length = m.length) := hlen
    clear hlen
    go_enter Try.func11, Try.ntmps11
    go_wp2_with fail
    go_loopw [7] (fun iv wr => ∃ k : Nat, iv = .int .i64 (k : Int) ∧ k ≤ l.length ∧ Fr no w wr ∧ Hid (sameR p (l.drop k) (m.drop k) = R)) (fun iv _ => l.length - (intOf iv).toNat)
    case atStart => exact ⟨0, rfl, Nat.zero_le _, Fr.refl _ _, HR.out⟩
    case round =>
      obtain ⟨k, rfl, hk, hF, HK⟩ := hrel
      have hk0 : (0 : Int) ≤ (k : Int) := by omega
      by_cases hlt : k < l.length
      · have hlt' : (k : Int) < (l.length : Int) := by omega
        have hltn : k < m.length := by have := HLEN.out; omega
        have hltm : (k : Int) < (m.length : Int) := by omega
        obtain ⟨b, off, ho, hc⟩ := sl_tk (HV.out.keep hF) hlt
        obtain ⟨b2, off2, ho2, hc2⟩ := sl_tk (HU.out.keep hF) hltn
        subst ho ho2
        have c0 := hc 0 _ rfl
        rw [Nat.add_zero] at c0
        have c1 := hc 1 _ rfl
        have c2 := hc 2 _ rfl
        have c3 := hc 3 _ rfl
        have c4 := hc 4 _ rfl
        have d0 := hc2 0 _ rfl
        rw [Nat.add_zero] at d0
        have d1 := hc2 1 _ rfl
        have d2 := hc2 2 _ rfl
        have d3 := hc2 3 _ rfl
        have d4 := hc2 4 _ rfl
        have scx := store_cx
        clear hc hc2
        have lb := World.block_lt_of_cell? wr ⟨b, off + k * 5, none⟩ c0
        have lb2 := World.block_lt_of_cell? wr ⟨b2, off2 + k * 5, none⟩ d0
        simp only at lb lb2
        have nb : ¬ b = wr.heap.size := by omega
        have nb2 : ¬ b2 = wr.heap.size := by omega
        have mb : ¬ b = wr.heap.size + 1 := by omega
        have mb2 : ¬ b2 = wr.heap.size + 1 := by omega
        have c0a := alloc_cell c0
        have c0b := fun cs t => alloc_cell (alloc_cell c0 cs t)
        have c1a := alloc_cell c1
        have c1b := fun cs t => alloc_cell (alloc_cell c1 cs t)
        have c2a := alloc_cell c2
        have c2b := fun cs t => alloc_cell (alloc_cell c2 cs t)
        have c3a := alloc_cell c3
        have c3b := fun cs t => alloc_cell (alloc_cell c3 cs t)
        have c4a := alloc_cell c4
        have c4b := fun cs t => alloc_cell (alloc_cell c4 cs t)
        have d0a := alloc_cell d0
        have d0b := fun cs t => alloc_cell (alloc_cell d0 cs t)
        have d1a := alloc_cell d1
        have d1b := fun cs t => alloc_cell (alloc_cell d1 cs t)
        have d2a := alloc_cell d2
        have d2b := fun cs t => alloc_cell (alloc_cell d2 cs t)
        have d3a := alloc_cell d3
        have d3b := fun cs t => alloc_cell (alloc_cell d3 cs t)
        have d4a := alloc_cell d4
        have d4b := fun cs t => alloc_cell (alloc_cell d4 cs t)
        clear lb lb2
        have HKK : Hid (R = (tkSame p l[k] m[k] && sameR p (l.drop (k + 1)) (m.drop (k + 1)))) := by
          show _ = _
          rw [← HK.out, List.drop_eq_getElem_cons hlt, List.drop_eq_getElem_cons hltn]
          rfl
        have CS := csame_any
        have HF : Hid (Fr no w wr) := hF
        clear hF HK
        generalize l[k] = x at *
        generalize m[k] = y at *
        obtain ⟨xk, xa, xt, xn, xr, xi⟩ := x
        obtain ⟨yk, ya, yt, yn, yr, yi⟩ := y
        simp only at *
        by_cases h1 : xk = yk
        case neg =>
          obtain rfl : R = false := HKK.out.trans (by unfold tkSame; rw [decide_eq_false h1]; rfl)
          have e1 : (xk != yk) = true := by simpa using h1
          clear HKK h1
          go_wp2_with fail
          go_region
          all_goals
            go_wp2_with fail
            go_ret
            exact ⟨rfl, ((HF.out.alloc _ _).alloc _ _).drew⟩
        subst h1
        cases h2 : (xt.toList == yt.toList)
        case false =>
          obtain rfl : R = false := HKK.out.trans (by unfold tkSame; rw [h2]; simp)
          clear HKK
          go_wp2_with fail
          go_region
          all_goals
            go_wp2_with fail
            go_ret
            exact ⟨rfl, ((HF.out.alloc _ _).alloc _ _).drew⟩
        by_cases h3 : xn = yn
        case neg =>
          obtain rfl : R = false := HKK.out.trans (by unfold tkSame; rw [decide_eq_false h3]; simp)
          have e3 : (xn != yn) = true := by simpa using h3
          clear HKK h3
          go_wp2_with fail
          go_region
          all_goals
            go_wp2_with fail
            go_ret
            exact ⟨rfl, ((HF.out.alloc _ _).alloc _ _).drew⟩
        subst h3
        cases h4 : cEq xr xi yr yi
        case false =>
          obtain rfl : R = false := HKK.out.trans (by unfold tkSame; rw [h4]; simp)
          replace CS := fun w => CS w xr xi yr yi
          rw [h4] at CS
          clear HKK h4
          go_wp2_with fail
          go_region
          all_goals
            go_wp2_with fail
            refine (CS _).mono ?_
            rintro _ w2 ⟨rfl, rfl⟩
            go_wp2_with fail
            go_ret
            exact ⟨rfl, ((HF.out.alloc _ _).alloc _ _).drew⟩
        replace CS := fun w => CS w xr xi yr yi
        rw [h4] at CS
        cases p
        case false =>
          have HKK : Hid (R = sameR false (l.drop (k + 1)) (m.drop (k + 1))) := by
            show _ = _
            rw [HKK.out]
            unfold tkSame
            rw [h2, h4]
            simp
          clear h4
          go_wp2_with fail
          go_region
          all_goals
            go_wp2_with fail
            refine (CS _).mono ?_
            rintro _ w2 ⟨rfl, rfl⟩
            go_wp2_with fail
            go_roundw
            case rel => exact ⟨k + 1, by congr 1, by omega, ((HF.out.alloc _ _).alloc _ _).drew, HKK.out.symm⟩
            case measure => simp [intOf]; omega
        by_cases h5 : xa = ya
        case neg =>
          obtain rfl : R = false := HKK.out.trans (by unfold tkSame; rw [decide_eq_false h5]; simp)
          have e5 : (xa != ya) = true := by simpa using h5
          clear HKK h4 h5
          go_wp2_with fail
          go_region
          all_goals
            go_wp2_with fail
            refine (CS _).mono ?_
            rintro _ w2 ⟨rfl, rfl⟩
            go_wp2_with fail
            go_ret
            exact ⟨rfl, ((HF.out.alloc _ _).alloc _ _).drew⟩
        subst h5
        have HKK : Hid (R = sameR true (l.drop (k + 1)) (m.drop (k + 1))) := by
          show _ = _
          rw [HKK.out]
          unfold tkSame
          rw [h2, h4]
          simp
        clear h4
        go_wp2_with fail
        go_region
        all_goals
          go_wp2_with fail
          refine (CS _).mono ?_
          rintro _ w2 ⟨rfl, rfl⟩
          go_wp2_with fail
          go_roundw
          case rel => exact ⟨k + 1, by congr 1, by omega, ((HF.out.alloc _ _).alloc _ _).drew, HKK.out.symm⟩
          case measure => simp [intOf]; omega
      · obtain rfl : k = l.length := by omega
        have HT : R = true := by
          rw [← HK.out, List.drop_eq_nil_of_le (Nat.le_refl _), List.drop_eq_nil_of_le (by have := HLEN.out; omega)]
          rfl
        subst HT
        have hlt' : ¬ (l.length : Int) < (l.length : Int) := by omega
        go_wp2_with fail
        go_ret
        exact ⟨rfl, hF⟩
  · have hq : ((l.length : Int) != (m.length : Int)) = true := by simp; omega
    obtain rfl : R = false := by rw [← HR.out]; exact sameR_len hlen
    go_enter Try.func11, Try.ntmps11
    go_wp2_with fail
    go_ret
    exact ⟨rfl, Fr.refl _ _⟩
end Go.Proofs.Ytmpahllkbpofnaa
