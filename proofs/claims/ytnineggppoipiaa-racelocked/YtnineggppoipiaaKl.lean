/- The law RaceLocked: the walk. -/
import Derived.Test.YtnineggppoipiaaKr
import Derived.Test.YtnineggppoipiaaKq
namespace Go.Proofs.Ytnineggppoipiaa
open Go.ChangeShapes Go.WideShapes Go.ChangeAt Go.RowKit

def th6 (x : Nat) : Nat := x % 6 + 1
theorem th6_int (x : Nat) : ((x : Int) % 6) + 1 = (th6 x : Int) := by unfold th6; omega
theorem th6_1 (x : Nat) : 1 ≤ th6 x := by unfold th6; omega
theorem th6_6 (x : Nat) : th6 x ≤ 6 := by unfold th6; omega

set_option maxRecDepth 100000 in
set_option maxHeartbeats 4000000 in
theorem locked_all (w : World) (v : Value) (l : List Nat) (x0 : Nat) (h : RdG elY w v l) (hb : ∀ c ∈ l, c < 256) (hx0 : x0 ≤ 255) : Calls Try.prog 5 #[v, .int .u8 (x0 : Int)] w fun e w' => e = .returned (.bool true) ∧ Fr no w w' := by
  have HR : Hid (RdG elY w v l) := h
  have HB : Hid (∀ c ∈ l, c < 256) := hb
  obtain ⟨ad, cp, rfl⟩ := h.form
  have KN := known_any w
  clear h hb
  generalize hn : l.length = n at *
  by_cases hlen : n > 60
  · have hlen' : (n : Int) > 60 := by omega
    go_enter Try.func5, Try.ntmps5
    go_wp2_with fail
    refine KN.mono ?_
    rintro _ w1 ⟨rfl, f1⟩
    have HF : Hid _ := f1
    clear KN f1
    go_wp2_with fail
    go_ret
    exact ⟨rfl, HF.out⟩
  · have hlen' : ¬ ((n : Int) > 60) := by omega
    go_enter Try.func5, Try.ntmps5
    go_wp2_with fail
    refine KN.mono ?_
    rintro _ w1 ⟨rfl, f1⟩
    have NW := ps_new w1 w1.heap.size (Nat.le_refl _)
    have HS : Hid (w.heap.size ≤ w1.heap.size) := f1.size
    generalize w1.heap.size = p at *
    have HF1 : Hid _ := f1
    clear KN f1
    go_wp2_with fail
    refine NW.mono ?_
    rintro _ w2 ⟨rfl, p2, f2⟩
    have HP2 : Hid _ := p2
    have HF2 : Hid _ := HF1.out.and f2
    clear NW p2 f2 HF1
    go_wp2_with fail
    go_loopw [6, 7] (fun ov iv wr => ∃ (j m : Nat) (F : Cm), ov = .int .i64 (m : Int) ∧ iv = .int .i64 (j : Int) ∧ j ≤ n ∧ Hid (LkI F m) ∧ Hid (PS p wr p F 0 (3 * j + 1)) ∧ Hid (Fr no w wr)) (fun _ iv _ => n - (intOf iv).toNat)
    case atStart => exact ⟨0, 0, _, rfl, rfl, Nat.zero_le _, LkI.begin, HP2, HF2⟩
    case round =>
      clear HP2 HF2
      obtain ⟨j, m, F, rfl, rfl, hj, HI, HP, HF⟩ := hrel
      have hj0 : (0 : Int) ≤ (j : Int) := by omega
      by_cases hlt : j < n
      · have hlt' : (j : Int) < (n : Int) := by omega
        obtain ⟨x, hx⟩ : ∃ x, l[j]? = some x := ⟨_, List.getElem?_eq_getElem (by omega)⟩
        obtain ⟨b, off, rfl, hc⟩ := RdG.at1 (HR.out.keep HF.out) rfl rfl hx
        have HC : Hid (l[j]? = some x) := hx
        have hx2 : x < 256 := HB.out x (List.mem_of_getElem? hx)
        have t1 := th6_1 x
        have t6 := th6_6 x
        have A1 := HP.out.acquire (by omega) (th6 x) 9 (in_s 9 (by decide))
        have hti := th6_int x
        have HU4 : Hid _ := HI.out.use t1 t6 4 (.inl rfl)
        have HU5 : Hid _ := HI.out.use t1 t6 5 (.inr rfl)
        have HT4 : Hid (BP (turnF F 4 (th6 x)) 1000000 → _) := HI.out.turn t1 t6 4 (.inl rfl)
        have HT5 : Hid (BP (turnF F 5 (th6 x)) 1000000 → _) := HI.out.turn t1 t6 5 (.inr rfl)
        clear hx HI HP
        go_wp2_with fail
        clear hti
        refine A1.mono ?_
        rintro _ w3 ⟨rfl, p3, f3⟩
        have HF3 : Hid _ := fr_tw HF.out HS.out f3
        clear A1 f3 hc HF
        have hc2 : w3.cell? ⟨b, off + j, none⟩ = some (.int .u8 (x : Int)) := by
          obtain ⟨b2, off2, e2, hc2⟩ := RdG.at1 (HR.out.keep HF3.out) rfl rfl HC.out
          cases e2
          exact hc2
        by_cases hw : x / 6 % 2 = 0
        · have hw2 : (x : Int) / 6 % 2 = 0 := by omega
          have W1 := p3.write (by omega) (th6 x) 3 1 (in_s _ (by omega)) (in_s 3 (by decide)) (in_s 1 (by decide))
          rw [HU5.out] at W1
          clear p3
          go_wp2_with fail
          refine W1.mono ?_
          rintro _ w4 ⟨rfl, p4, f4⟩
          have R1 := p4.release (by omega) (th6 x) 9 (in_s 9 (by decide))
          have HF4 : Hid _ := fr_tw HF3.out HS.out f4
          clear W1 p4 f4 hc2
          go_wp2_with fail
          refine R1.mono ?_
          rintro _ w5 ⟨rfl, p5, f5⟩
          have HP5 : Hid (PS p w5 p (turnF F 5 (th6 x)) 0 (3 * j + 1 + 1 + 1 + 1)) := p5
          have HI5 : Hid (LkI (turnF F 5 (th6 x)) (th6 x)) := HT5.out (p5.b.mono (by omega))
          have HF5 : Hid _ := fr_tw HF4.out HS.out f5
          clear R1 p5 f5
          go_wp2_with fail
          go_roundw
          case rel => exact ⟨j + 1, th6 x, _, rfl, by congr 1, by omega, HI5, HP5, HF5⟩
          case measure => simp [intOf]; omega
        · have hw2 : (x : Int) / 6 % 2 = 1 := by omega
          have W1 := p3.read (by omega) (th6 x) 3 1 (in_s _ (by omega)) (in_s 3 (by decide)) (in_s 1 (by decide))
          rw [HU4.out] at W1
          clear p3
          go_wp2_with fail
          refine W1.mono ?_
          rintro _ w4 ⟨rfl, p4, f4⟩
          have R1 := p4.release (by omega) (th6 x) 9 (in_s 9 (by decide))
          have HF4 : Hid _ := fr_tw HF3.out HS.out f4
          clear W1 p4 f4 hc2
          go_wp2_with fail
          refine R1.mono ?_
          rintro _ w5 ⟨rfl, p5, f5⟩
          have HP5 : Hid (PS p w5 p (turnF F 4 (th6 x)) 0 (3 * j + 1 + 1 + 1 + 1)) := p5
          have HI5 : Hid (LkI (turnF F 4 (th6 x)) m) := HT4.out (p5.b.mono (by omega))
          have HF5 : Hid _ := fr_tw HF4.out HS.out f5
          clear R1 p5 f5
          go_wp2_with fail
          go_roundw
          case rel => exact ⟨j + 1, m, _, rfl, by congr 1, by omega, HI5, HP5, HF5⟩
          case measure => simp [intOf]; omega
      · obtain rfl : j = n := by omega
        have RC := HP.out.races
        by_cases hm : m = 0
        · subst hm
          have RC2 := HP.out.races
          clear HP HI
          go_wp2_with fail
          refine RC.mono ?_
          rintro _ w3 ⟨rfl, hw3⟩
          subst hw3
          clear RC
          go_wp2_with fail
          refine RC2.mono ?_
          rintro _ w3 ⟨rfl, hw3⟩
          subst hw3
          go_wp2_with fail
          go_ret
          exact ⟨rfl, HF.out⟩
        · have hm2 : ¬ (m : Int) = 0 := by omega
          have hm3 : ((m : Int) == 0) = false := by simpa using hm2
          have ht : ((x0 : Int) % 6) + 7 = ((x0 % 6 + 7 : Nat) : Int) := by omega
          have W1 := HP.out.write (by omega) ((x0 % 6 + 7 : Nat) : Int) 3 1 (in_s _ (by omega)) (in_s 3 (by decide)) (in_s 1 (by decide))
          rw [HI.out.race hm (by omega) (by omega), ← ht] at W1
          clear HP HI ht hm2
          go_wp2_with fail
          refine RC.mono ?_
          rintro _ w3 ⟨rfl, hw3⟩
          subst hw3
          clear RC
          go_wp2_with fail
          refine W1.mono ?_
          rintro _ w4 ⟨rfl, p4, f4⟩
          have RC := p4.races
          rw [show bumpR 0 true = 1 from rfl] at RC
          have HF4 : Hid _ := fr_tw HF.out HS.out f4
          clear W1 p4 f4
          go_wp2_with fail
          refine RC.mono ?_
          rintro _ w5 ⟨rfl, hw5⟩
          subst hw5
          go_wp2_with fail
          go_ret
          exact ⟨rfl, HF4.out⟩
end Go.Proofs.Ytnineggppoipiaa
