/- The statement on the lowest block: it returns true. -/
import Derived.Test.YtmoejipmiicgpaaFi
import Derived.Test.YtmoejipmiicgpaaKn
namespace Go.Proofs.Ytmoejipmiicgpaa
open Go.ChangeShapes Go.WideShapes Go.ChangeAt Go.RowKit

set_option maxRecDepth 100000 in
set_option maxHeartbeats 2000000 in
theorem first_any (w : World) (n a b want : Nat) (hn : n < 256) (ha : a < 256) (hb : b < 256) (hw : want < 256) :
    Calls Try.prog 5 #[.int .u8 (n : Int), .int .u8 (a : Int), .int .u8 (b : Int), .int .u8 (want : Int)] w fun e w' => e = .returned (.bool true) ∧ Fr no w w' := by
  have KN := known_any w
  have e10 : (n : Int) % 10 = ((n % 10 : Nat) : Int) := by omega
  have h10 : n % 10 < 10 := Nat.mod_lt _ (by omega)
  have e12 : (want : Int) % 12 = ((want % 12 : Nat) : Int) := by omega
  have h12 : want % 12 < 12 := Nat.mod_lt _ (by omega)
  generalize n % 10 = n1 at *
  generalize want % 12 = sz at *
  go_enter Try.func5, Try.ntmps5
  go_wp2_with fail
  refine KN.mono ?_
  rintro e w1 ⟨rfl, f1⟩
  have F1 : Hid (Fr no w w1) := f1
  have NW := new_any w1 (((n1 + 3 : Nat) : Int) * 6)
  have hsz : sizeN (((n1 + 3 : Nat) : Int) * 6) = (n1 + 3) * 6 := by unfold sizeN; omega
  rw [hsz, show (((n1 + 3 : Nat) : Int) * 6) = ((n1 : Int) + 3) * 6 by omega] at NW
  clear f1 KN hsz
  go_wp2_with fail
  refine NW.mono ?_
  rintro e w2 ⟨rfl, h2, f2⟩
  have H2 : Hid (HP w2 (w1.heap.size + 1) w1.heap.size (newB ((n1 + 3) * 6)) ∧ Fr no w w2) := ⟨h2, F1.out.and f2⟩
  have HG : Hid (w.heap.size ≤ w1.heap.size) := F1.out.size
  clear h2 f2 NW F1
  generalize w1.heap.size + 1 = p at *
  generalize w1.heap.size = g at *
  go_wp2_with fail
  go_loopw [11] (fun i wr => ∃ (j : Nat) (bs : List Blk), i = .int .i64 (j : Int) ∧ j ≤ n1 + 3 ∧ Fill j (n1 + 3) bs ∧ HP wr p g bs ∧ Fr no w wr) (fun i _ => n1 + 3 - (intOf i).toNat)
  case atStart => exact ⟨0, _, rfl, Nat.zero_le _, fill_new _ (by omega), H2.out.1, H2.out.2⟩
  case round =>
    obtain ⟨j, bs, rfl, hj, hfill, hp, hf⟩ := hrel
    by_cases hlt : j < n1 + 3
    · obtain ⟨hr, hnx⟩ := fill_next hfill hlt
      have AL := alloc_nat wr p g bs hp 1 4 (by decide)
      rw [hr] at AL
      simp only [rmA, errM, Option.isSome_some, if_true] at AL
      rw [show ((6 * j : Nat) : Int) + 1 = 6 * (j : Int) + 1 by omega] at AL
      have HX : Hid (Fill (j + 1) (n1 + 3) (allocB 1 4 bs) ∧ Fr no w wr) := ⟨hnx, hf⟩
      have ht : (j : Int) < (n1 : Int) + 3 := by omega
      clear hr hnx hp hf hfill
      go_wp2_with fail
      refine AL.mono ?_
      rintro e w3 ⟨rfl, h3, f3⟩
      have H3 : Hid (HP w3 p g (allocB 1 4 bs) ∧ Fr no w w3) := ⟨h3, HX.out.2.new f3 (fun i hi e => by have := HG.out; omega)⟩
      clear h3 f3 AL
      go_wp2_with fail
      go_roundw
      case rel => exact ⟨j + 1, _, by go_num, by omega, HX.out.1, H3.out.1, H3.out.2⟩
      case measure => simp [intOf]; omega
    · obtain rfl : j = n1 + 3 := by omega
      have hbs : bs = Os (n1 + 3) := by
        rcases hfill with ⟨_, h⟩ | ⟨h, _⟩
        · exact h
        · omega
      subst hbs
      have H3 : Hid (HP wr p g (Os (n1 + 3)) ∧ Fr no w wr) := ⟨hp, hf⟩
      clear hp hf hfill
      go_wp2_with fail
      have hz : ¬ ((n1 : Int) + 3 = 0) := by omega
      have ea : Int.tmod (a : Int) ((n1 : Int) + 3) = ((a % (n1 + 3) : Nat) : Int) := by
        rw [Int.tmod_eq_emod_of_nonneg (by omega)]
        exact (Int.natCast_emod a (n1 + 3)).symm
      have eb : Int.tmod (b : Int) ((n1 : Int) + 3) = ((b % (n1 + 3) : Nat) : Int) := by
        rw [Int.tmod_eq_emod_of_nonneg (by omega)]
        exact (Int.natCast_emod b (n1 + 3)).symm
      have hx : a % (n1 + 3) < n1 + 3 := Nat.mod_lt _ (by omega)
      have hy : b % (n1 + 3) < n1 + 3 := Nat.mod_lt _ (by omega)
      generalize a % (n1 + 3) = x at *
      generalize b % (n1 + 3) = y at *
      go_quiet (fail)
      generalize hwq : World.drewN _ nq = wq
      have H4 : Hid (HP wq p g (Os (n1 + 3)) ∧ Fr no w wq) := by rw [← hwq]; exact ⟨H3.out.1.drewN nq, H3.out.2.drewN nq⟩
      clear hwq H3
      obtain ⟨r1, r2⟩ := rel_one (k := n1 + 3) hx
      have RL := release_any wq p g _ H4.out.1 (6 * (x : Int) + 1) (by omega)
      rw [r1, r2] at RL
      simp only [errA, if_true] at RL
      have F4' : Hid (Fr no w wq) := H4.out.2
      clear r1 r2 H4
      go_wp2_with fail
      refine RL.mono ?_
      rintro e w5 ⟨rfl, h5, f5⟩
      have H5 : Hid (HP w5 p g (B1 (n1 + 3) x) ∧ Fr no w w5) := ⟨h5, F4'.out.new f5 (fun i hi e => by have := HG.out; omega)⟩
      clear h5 f5 RL F4'
      by_cases hxy : x = y
      · subst hxy
        have hrm : roomAt sz (B1 (n1 + 3) x) = if sz + 2 ≤ 6 then some (6 * x) else none := by
          rw [room_one]
          by_cases h : sz ≤ 4
          · rw [if_pos h, if_pos (by omega)]
          · rw [if_neg h, if_neg (by omega)]
        have H6 := H5
        clear H5
        generalize hw65 : w5 = w6 at *
        clear hw65
        have AL := alloc_nat w6 p g _ H6.out.1 2 sz (by decide)
        have HF6 : Hid (Fr no w w6) := H6.out.2
        rw [hrm] at AL
        clear hrm
        by_cases hs : sz + 2 ≤ 6
        · rw [if_pos hs] at AL
          simp only [rmA, errM, Option.isSome_some, if_true] at AL
          have e6 : ((6 * x : Nat) : Int) + 1 = 6 * (x : Int) + 1 := by omega
          rw [e6] at AL
          have hs' : ¬ ((6 : Int) < (sz : Int) + 2) := by omega
          go_wp2_with fail
          refine AL.mono ?_
          rintro e w7 ⟨rfl, h7, f7⟩
          have F7 : Hid (Fr no w w7) := HF6.out.new f7 (fun i hi e => by have := HG.out; omega)
          clear h7 f7
          go_wp2_with fail
          go_ret
          exact ⟨by simp, F7.out⟩
        · rw [if_neg hs] at AL
          simp only [rmA, errM, Option.isSome_none, Bool.false_eq_true, if_false] at AL
          have hs' : ((6 : Int) < (sz : Int) + 2) := by omega
          go_wp2_with fail
          refine AL.mono ?_
          rintro e w7 ⟨rfl, h7, f7⟩
          have F7 : Hid (Fr no w w7) := HF6.out.new f7 (fun i hi e => by have := HG.out; omega)
          clear h7 f7
          go_wp2_with fail
          go_ret
          exact ⟨rfl, F7.out⟩
      · have hxy' : ((x : Int) == (y : Int)) = false := by simp; omega
        obtain ⟨r1, r2⟩ := rel_two (k := n1 + 3) hx hy hxy
        have RL2 := release_any w5 p g _ H5.out.1 (6 * (y : Int) + 1) (by omega)
        rw [r1, r2] at RL2
        simp only [errA, if_true] at RL2
        clear r1 r2
        go_wp2_with fail
        refine RL2.mono ?_
        rintro e w6 ⟨rfl, h6, f6⟩
        have H6 : Hid (HP w6 p g (B2 (n1 + 3) (min x y) (max x y)) ∧ Fr no w w6) := ⟨h6, H5.out.2.new f6 (fun i hi e => by have := HG.out; omega)⟩
        clear h6 f6 RL2 H5
        have hrm := room_two (n1 + 3) (min x y) (max x y) sz (by omega)
        by_cases hl : x < y
        · rw [show min x y = x by omega, show max x y = y by omega] at hrm
          rw [show min x y = x by omega, show max x y = y by omega] at H6
          have hlx : (x : Int) < (y : Int) := by omega
          by_cases had : y = x + 1
          · rw [if_pos had] at hrm
            have had' : ((y : Int) == (x : Int) + 1) = true := by simp; omega
            have AL := alloc_nat w6 p g _ H6.out.1 2 sz (by decide)
            have HF6 : Hid (Fr no w w6) := H6.out.2
            rw [hrm] at AL
            clear hrm
            by_cases hs : sz + 2 ≤ 12
            · rw [if_pos hs] at AL
              simp only [rmA, errM, Option.isSome_some, if_true] at AL
              have e6 : ((6 * x : Nat) : Int) + 1 = 6 * (x : Int) + 1 := by omega
              rw [e6] at AL
              have hs' : ¬ ((12 : Int) < (sz : Int) + 2) := by omega
              go_wp2_with fail
              refine AL.mono ?_
              rintro e w7 ⟨rfl, h7, f7⟩
              have F7 : Hid (Fr no w w7) := HF6.out.new f7 (fun i hi e => by have := HG.out; omega)
              clear h7 f7
              go_wp2_with fail
              go_ret
              exact ⟨by simp, F7.out⟩
            · rw [if_neg hs] at AL
              simp only [rmA, errM, Option.isSome_none, Bool.false_eq_true, if_false] at AL
              have hs' : ((12 : Int) < (sz : Int) + 2) := by omega
              go_wp2_with fail
              refine AL.mono ?_
              rintro e w7 ⟨rfl, h7, f7⟩
              have F7 : Hid (Fr no w w7) := HF6.out.new f7 (fun i hi e => by have := HG.out; omega)
              clear h7 f7
              go_wp2_with fail
              go_ret
              exact ⟨rfl, F7.out⟩
          · rw [if_neg had] at hrm
            have had' : ((y : Int) == (x : Int) + 1) = false := by simp; omega
            have AL := alloc_nat w6 p g _ H6.out.1 2 sz (by decide)
            have HF6 : Hid (Fr no w w6) := H6.out.2
            rw [hrm] at AL
            clear hrm
            by_cases hs : sz + 2 ≤ 6
            · rw [if_pos hs] at AL
              simp only [rmA, errM, Option.isSome_some, if_true] at AL
              have e6 : ((6 * x : Nat) : Int) + 1 = 6 * (x : Int) + 1 := by omega
              rw [e6] at AL
              have hs' : ¬ ((6 : Int) < (sz : Int) + 2) := by omega
              go_wp2_with fail
              refine AL.mono ?_
              rintro e w7 ⟨rfl, h7, f7⟩
              have F7 : Hid (Fr no w w7) := HF6.out.new f7 (fun i hi e => by have := HG.out; omega)
              clear h7 f7
              go_wp2_with fail
              go_ret
              exact ⟨by simp, F7.out⟩
            · rw [if_neg hs] at AL
              simp only [rmA, errM, Option.isSome_none, Bool.false_eq_true, if_false] at AL
              have hs' : ((6 : Int) < (sz : Int) + 2) := by omega
              go_wp2_with fail
              refine AL.mono ?_
              rintro e w7 ⟨rfl, h7, f7⟩
              have F7 : Hid (Fr no w w7) := HF6.out.new f7 (fun i hi e => by have := HG.out; omega)
              clear h7 f7
              go_wp2_with fail
              go_ret
              exact ⟨rfl, F7.out⟩
        · rw [show min x y = y by omega, show max x y = x by omega] at hrm
          rw [show min x y = y by omega, show max x y = x by omega] at H6
          have hlx : (y : Int) < (x : Int) := by omega
          by_cases had : x = y + 1
          · rw [if_pos had] at hrm
            have had' : ((x : Int) == (y : Int) + 1) = true := by simp; omega
            have AL := alloc_nat w6 p g _ H6.out.1 2 sz (by decide)
            have HF6 : Hid (Fr no w w6) := H6.out.2
            rw [hrm] at AL
            clear hrm
            by_cases hs : sz + 2 ≤ 12
            · rw [if_pos hs] at AL
              simp only [rmA, errM, Option.isSome_some, if_true] at AL
              have e6 : ((6 * y : Nat) : Int) + 1 = 6 * (y : Int) + 1 := by omega
              rw [e6] at AL
              have hs' : ¬ ((12 : Int) < (sz : Int) + 2) := by omega
              go_wp2_with fail
              refine AL.mono ?_
              rintro e w7 ⟨rfl, h7, f7⟩
              have F7 : Hid (Fr no w w7) := HF6.out.new f7 (fun i hi e => by have := HG.out; omega)
              clear h7 f7
              go_wp2_with fail
              go_ret
              exact ⟨by simp, F7.out⟩
            · rw [if_neg hs] at AL
              simp only [rmA, errM, Option.isSome_none, Bool.false_eq_true, if_false] at AL
              have hs' : ((12 : Int) < (sz : Int) + 2) := by omega
              go_wp2_with fail
              refine AL.mono ?_
              rintro e w7 ⟨rfl, h7, f7⟩
              have F7 : Hid (Fr no w w7) := HF6.out.new f7 (fun i hi e => by have := HG.out; omega)
              clear h7 f7
              go_wp2_with fail
              go_ret
              exact ⟨rfl, F7.out⟩
          · rw [if_neg had] at hrm
            have had' : ((x : Int) == (y : Int) + 1) = false := by simp; omega
            have AL := alloc_nat w6 p g _ H6.out.1 2 sz (by decide)
            have HF6 : Hid (Fr no w w6) := H6.out.2
            rw [hrm] at AL
            clear hrm
            by_cases hs : sz + 2 ≤ 6
            · rw [if_pos hs] at AL
              simp only [rmA, errM, Option.isSome_some, if_true] at AL
              have e6 : ((6 * y : Nat) : Int) + 1 = 6 * (y : Int) + 1 := by omega
              rw [e6] at AL
              have hs' : ¬ ((6 : Int) < (sz : Int) + 2) := by omega
              go_wp2_with fail
              refine AL.mono ?_
              rintro e w7 ⟨rfl, h7, f7⟩
              have F7 : Hid (Fr no w w7) := HF6.out.new f7 (fun i hi e => by have := HG.out; omega)
              clear h7 f7
              go_wp2_with fail
              go_ret
              exact ⟨by simp, F7.out⟩
            · rw [if_neg hs] at AL
              simp only [rmA, errM, Option.isSome_none, Bool.false_eq_true, if_false] at AL
              have hs' : ((6 : Int) < (sz : Int) + 2) := by omega
              go_wp2_with fail
              refine AL.mono ?_
              rintro e w7 ⟨rfl, h7, f7⟩
              have F7 : Hid (Fr no w w7) := HF6.out.new f7 (fun i hi e => by have := HG.out; omega)
              clear h7 f7
              go_wp2_with fail
              go_ret
              exact ⟨rfl, F7.out⟩
end Go.Proofs.Ytmoejipmiicgpaa
