/- The law RaceReads: the walk. -/
import Derived.Test.YtnineggppoipiaaKn
import Derived.Test.YtnineggppoipiaaKp
import Derived.Test.YtnineggppoipiaaLift
namespace Go.Proofs.Ytnineggppoipiaa
open Go.ChangeShapes Go.WideShapes Go.ChangeAt Go.RowKit

/-- The thread of a byte. -/
def thr (x : Nat) : Nat := x % 12 + 1
theorem thr_1 (x : Nat) : 1 ≤ thr x := by unfold thr; omega
theorem thr_12 (x : Nat) : thr x ≤ 12 := by unfold thr; omega
theorem take_one {α : Type} {l : List α} {j : Nat} {x : α} (h : l[j]? = some x) : l.take (j + 1) = l.take j ++ [x] := by
  rw [List.take_add_one, h]
  rfl
def seen (l : List Nat) : Nat → Bool := fun u => l.any fun x => u == thr x
theorem seen_step (l : List Nat) (x : Nat) : seen (l ++ [x]) = fun u => seen l u || u == thr x := by
  funext u
  unfold seen
  simp
def oth (l : List Nat) (t : Nat) : Bool := l.any fun x => decide (thr x ≠ t)
theorem oth_iff (l : List Nat) (t : Nat) : oth l t = true ↔ ∃ u, 1 ≤ u ∧ u ≤ 12 ∧ u ≠ t ∧ seen l u = true := by
  unfold oth seen
  rw [List.any_eq_true]
  constructor
  · rintro ⟨x, hx, h⟩
    exact ⟨thr x, thr_1 x, thr_12 x, by simpa using h, by rw [List.any_eq_true]; exact ⟨x, hx, by simp⟩⟩
  · rintro ⟨u, -, -, hne, h⟩
    rw [List.any_eq_true] at h
    obtain ⟨x, hx, he⟩ := h
    exact ⟨x, hx, by simp at he; simp [← he, hne]⟩
theorem oth_step (l : List Nat) (x t : Nat) : oth (l ++ [x]) t = (oth l t || decide (thr x ≠ t)) := by
  unfold oth
  simp
theorem thr_int (x : Nat) : ((x : Int) % 12) + 1 = (thr x : Int) := by unfold thr; omega

set_option maxRecDepth 100000 in
set_option maxHeartbeats 4000000 in
theorem reads_all (w : World) (v : Value) (l : List Nat) (x0 : Nat) (h : RdG elY w v l) (hb : ∀ c ∈ l, c < 256) (hx0 : x0 ≤ 255) : Calls Try.prog 8 #[v, .int .u8 (x0 : Int)] w fun e w' => e = .returned (.bool true) ∧ Fr no w w' := by
  have HR : Hid (RdG elY w v l) := h
  have HB : Hid (∀ c ∈ l, c < 256) := hb
  obtain ⟨ad, cp, rfl⟩ := h.form
  have KN := known_any w
  clear h hb
  generalize hn : l.length = n at *
  by_cases hlen : n > 40
  · have hlen' : (n : Int) > 40 := by omega
    go_enter Try.func8, Try.ntmps8
    go_wp2_with fail
    refine KN.mono ?_
    rintro _ w1 ⟨rfl, f1⟩
    have HF : Hid _ := f1
    clear KN f1
    go_wp2_with fail
    go_ret
    exact ⟨rfl, HF.out⟩
  · have hlen' : ¬ ((n : Int) > 40) := by omega
    go_enter Try.func8, Try.ntmps8
    go_wp2_with fail
    refine KN.mono ?_
    rintro _ w1 ⟨rfl, f1⟩
    have NW := ps_new w1 w1.heap.size (Nat.le_refl _)
    have HS : Hid (w.heap.size ≤ w1.heap.size) := f1.size
    generalize w1.heap.size = p at *
    have HF1 : Hid _ := f1
    clear KN f1
    go_wp2_with fail
    refine NW.mono ?_
    rintro _ w2 ⟨rfl, p2, f2⟩
    have HP2 : Hid _ := p2
    have HF2 : Hid _ := HF1.out.and f2
    clear NW p2 f2 HF1
    go_wp2_with fail
    rw [thr_int x0]
    have ht1 := thr_1 x0
    have ht2 := thr_12 x0
    clear hx0
    generalize thr x0 = t0 at *
    go_loopw [6, 8] (fun ov iv wr => ∃ (j : Nat) (F : Cm) (o : Bool), ov = .bool o ∧ iv = .int .i64 (j : Int) ∧ j ≤ n ∧ Hid (o = oth (l.take j) t0) ∧ Hid (RdI2 F (seen (l.take j))) ∧ Hid (PS p wr p F 0 (j + 1)) ∧ Hid (Fr no w wr)) (fun _ iv _ => n - (intOf iv).toNat)
    case atStart => exact ⟨0, _, false, rfl, rfl, Nat.zero_le _, by simp [Hid, oth], RdI2.begin, HP2, HF2⟩
    case round =>
      clear HP2 HF2
      obtain ⟨j, F, o, rfl, rfl, hj, HO, HI, HP, HF⟩ := hrel
      have hj0 : (0 : Int) ≤ (j : Int) := by omega
      by_cases hlt : j < n
      · have hlt' : (j : Int) < (n : Int) := by omega
        obtain ⟨x, hx⟩ : ∃ x, l[j]? = some x := ⟨_, List.getElem?_eq_getElem (by omega)⟩
        obtain ⟨b, off, rfl, hc⟩ := RdG.at1 (HR.out.keep HF.out) rfl rfl hx
        have hx2 : x < 256 := HB.out x (List.mem_of_getElem? hx)
        have HT := take_one hx
        obtain ⟨g1, g2⟩ := HI.out.read (thr_1 x) (thr_12 x)
        rw [← seen_step, ← HT] at g2
        have R1 := HP.out.read (by omega) (thr x) 5 1 (in_s _ (by have := thr_12 x; omega)) (in_s 5 (by decide)) (in_s 1 (by decide))
        rw [g1] at R1
        have HI2 : Hid _ := g2
        have HO2 : Hid (oth (l.take (j + 1)) t0 = (o || decide (thr x ≠ t0))) := by rw [Hid, HT, oth_step, HO.out]
        have hne : ((thr x : Int) != (t0 : Int)) = decide (thr x ≠ t0) := by
          by_cases e : thr x = t0
          · simp [e]
          · have e2 : (thr x : Int) ≠ (t0 : Int) := by omega
            rw [decide_eq_true e]
            simpa using e2
        rw [← thr_int x] at R1 hne
        generalize decide (thr x ≠ t0) = d at *
        have HFP : Hid _ := HF
        clear g1 g2 HT hx HI HO HP
        go_wp2_with fail
        refine R1.mono ?_
        rintro _ w3 ⟨rfl, p3, f3⟩
        have HP3 : Hid (PS p w3 p _ 0 (j + 1 + 1)) := p3
        have HF3 : Hid _ := fr_tw HFP.out HS.out f3
        clear R1 p3 f3 hc
        cases o
        · go_wp2_with fail
          go_roundw
          case rel => exact ⟨j + 1, _, d, rfl, by congr 1, by omega, by rw [Hid, HO2.out, Bool.false_or], HI2, HP3, HF3⟩
          case measure => simp [intOf]; omega
        · go_wp2_with fail
          go_roundw
          case rel => exact ⟨j + 1, _, true, rfl, by congr 1, by omega, by rw [Hid, HO2.out, Bool.true_or], HI2, HP3, HF3⟩
          case measure => simp [intOf]; omega
      · obtain rfl : j = n := by omega
        have hO : o = oth l t0 := by rw [HO.out, List.take_of_length_le (by omega)]
        have hb : o = true ↔ ∃ u, 1 ≤ u ∧ u ≤ 12 ∧ u ≠ t0 ∧ seen (l.take j) u = true := by rw [hO, oth_iff, List.take_of_length_le (by omega)]
        obtain ⟨g1, g2, g3⟩ := HI.out.write ht1 ht2 o hb
        have W1 := HP.out.write (by omega) t0 5 1 (in_s _ (by omega)) (in_s 5 (by decide)) (in_s 1 (by decide))
        rw [g1] at W1
        have HG2 : Hid _ := g2
        have HG3 : Hid _ := g3
        clear g1 g2 g3 hb hO HO HI HP
        go_wp2_with fail
        refine W1.mono ?_
        rintro _ w3 ⟨rfl, p3, f3⟩
        have W2 := p3.write (by omega) t0 5 2 (in_s _ (by omega)) (in_s 5 (by decide)) (in_s 2 (by decide))
        rw [HG2.out] at W2
        have HF3 : Hid _ := fr_tw HF.out HS.out f3
        clear W1 p3 f3
        have hoo : (o == o) = true := by simp
        go_wp2_with fail
        refine W2.mono ?_
        rintro _ w4 ⟨rfl, p4, f4⟩
        have W3 := p4.write (by omega) t0 6 1 (in_s _ (by omega)) (in_s 6 (by decide)) (in_s 1 (by decide))
        rw [HG3.out] at W3
        have HF4 : Hid _ := fr_tw HF3.out HS.out f4
        clear W2 p4 f4
        go_wp2_with fail
        refine W3.mono ?_
        rintro _ w5 ⟨rfl, p5, f5⟩
        have HF5 : Hid _ := fr_tw HF4.out HS.out f5
        clear W3 p5 f5
        go_wp2_with fail
        go_ret
        exact ⟨rfl, HF5.out⟩
end Go.Proofs.Ytnineggppoipiaa
