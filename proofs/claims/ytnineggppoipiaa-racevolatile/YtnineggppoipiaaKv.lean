/- The laws RaceVolatile and RaceBegun: walks. -/
import Derived.Test.YtnineggppoipiaaKn
namespace Go.Proofs.Ytnineggppoipiaa
open Go.ChangeShapes Go.WideShapes Go.ChangeAt Go.RowKit

set_option maxRecDepth 100000 in
set_option maxHeartbeats 1000000 in
theorem volatile_all (w : World) (a b : Bool) : Calls Try.prog 7 #[.bool a, .bool b] w fun e w' => e = .returned (.bool true) ∧ Fr no w w' := by
  cases a
  · cases b
    · have K0 := known_any w
      go_enter Try.func7, Try.ntmps7
      go_wp2_with fail
      refine K0.mono ?_
      rintro _ w0 ⟨rfl, f0⟩
      have N1 := ps_new w0 w0.heap.size (Nat.le_refl _)
      have HS : Hid (w.heap.size ≤ w0.heap.size) := f0.size
      have HF0 : Hid (Fr no w w0) := f0
      generalize w0.heap.size = p at *
      clear K0 f0
      go_wp2_with fail
      refine N1.mono ?_
      rintro _ w1 ⟨rfl, p1, f1⟩
      have HF1 : Hid (Fr no w w1) := HF0.out.and f1
      clear N1 f1 HF0
      have C1 := p1.write (by decide) 1 5 0 (in_s 1 (by decide)) (in_s 5 (by decide)) in_0
      rw [show touB (fun _ => none) ⟨5, 1, 5, 0⟩ = false by decide +kernel] at C1
      clear p1
      go_wp2_with fail
      refine C1.mono ?_
      rintro _ w2 ⟨rfl, p2, f2⟩
      have HF2 : Hid (Fr no w w2) := fr_tw HF1.out HS.out f2
      clear C1 f2 HF1
      have C2 := p2.vwrite (by decide) 1 9 4 (in_s 9 (by decide)) (in_s 4 (by decide))
      clear p2
      go_wp2_with fail
      refine C2.mono ?_
      rintro _ w3 ⟨rfl, p3, f3⟩
      have HF3 : Hid (Fr no w w3) := fr_tw HF2.out HS.out f3
      clear C2 f3 HF2
      have C3 := p3.read (by decide) 2 5 0 (in_s 2 (by decide)) (in_s 5 (by decide)) in_0
      rw [show touB (relP (touF (fun _ => none) ⟨5, 1, 5, 0⟩) 1 ⟨3, 0, 9, 4⟩) ⟨4, 2, 5, 0⟩ = true by decide +kernel] at C3
      clear p3
      go_wp2_with fail
      refine C3.mono ?_
      rintro _ w4 ⟨rfl, p4, f4⟩
      have HF4 : Hid (Fr no w w4) := fr_tw HF3.out HS.out f4
      clear C3 f4 HF3
      clear p4
      go_wp2_with fail
      go_ret
      exact ⟨rfl, HF4.out⟩
    · have K0 := known_any w
      go_enter Try.func7, Try.ntmps7
      go_wp2_with fail
      refine K0.mono ?_
      rintro _ w0 ⟨rfl, f0⟩
      have N1 := ps_new w0 w0.heap.size (Nat.le_refl _)
      have HS : Hid (w.heap.size ≤ w0.heap.size) := f0.size
      have HF0 : Hid (Fr no w w0) := f0
      generalize w0.heap.size = p at *
      clear K0 f0
      go_wp2_with fail
      refine N1.mono ?_
      rintro _ w1 ⟨rfl, p1, f1⟩
      have HF1 : Hid (Fr no w w1) := HF0.out.and f1
      clear N1 f1 HF0
      have C1 := p1.vread (by decide) 2 9 4 (in_s 9 (by decide)) (in_s 4 (by decide))
      clear p1
      go_wp2_with fail
      refine C1.mono ?_
      rintro _ w2 ⟨rfl, p2, f2⟩
      have HF2 : Hid (Fr no w w2) := fr_tw HF1.out HS.out f2
      clear C1 f2 HF1
      have C2 := p2.write (by decide) 1 5 0 (in_s 1 (by decide)) (in_s 5 (by decide)) in_0
      rw [show touB (acqP (fun _ => none) 2 ⟨3, 0, 9, 4⟩) ⟨5, 1, 5, 0⟩ = false by decide +kernel] at C2
      clear p2
      go_wp2_with fail
      refine C2.mono ?_
      rintro _ w3 ⟨rfl, p3, f3⟩
      have HF3 : Hid (Fr no w w3) := fr_tw HF2.out HS.out f3
      clear C2 f3 HF2
      have C3 := p3.vwrite (by decide) 1 9 4 (in_s 9 (by decide)) (in_s 4 (by decide))
      clear p3
      go_wp2_with fail
      refine C3.mono ?_
      rintro _ w4 ⟨rfl, p4, f4⟩
      have HF4 : Hid (Fr no w w4) := fr_tw HF3.out HS.out f4
      clear C3 f4 HF3
      have C4 := p4.read (by decide) 2 5 0 (in_s 2 (by decide)) (in_s 5 (by decide)) in_0
      rw [show touB (relP (touF (acqP (fun _ => none) 2 ⟨3, 0, 9, 4⟩) ⟨5, 1, 5, 0⟩) 1 ⟨3, 0, 9, 4⟩) ⟨4, 2, 5, 0⟩ = true by decide +kernel] at C4
      clear p4
      go_wp2_with fail
      refine C4.mono ?_
      rintro _ w5 ⟨rfl, p5, f5⟩
      have HF5 : Hid (Fr no w w5) := fr_tw HF4.out HS.out f5
      clear C4 f5 HF4
      clear p5
      go_wp2_with fail
      go_ret
      exact ⟨rfl, HF5.out⟩
  · cases b
    · have K0 := known_any w
      go_enter Try.func7, Try.ntmps7
      go_wp2_with fail
      refine K0.mono ?_
      rintro _ w0 ⟨rfl, f0⟩
      have N1 := ps_new w0 w0.heap.size (Nat.le_refl _)
      have HS : Hid (w.heap.size ≤ w0.heap.size) := f0.size
      have HF0 : Hid (Fr no w w0) := f0
      generalize w0.heap.size = p at *
      clear K0 f0
      go_wp2_with fail
      refine N1.mono ?_
      rintro _ w1 ⟨rfl, p1, f1⟩
      have HF1 : Hid (Fr no w w1) := HF0.out.and f1
      clear N1 f1 HF0
      have C1 := p1.write (by decide) 1 5 0 (in_s 1 (by decide)) (in_s 5 (by decide)) in_0
      rw [show touB (fun _ => none) ⟨5, 1, 5, 0⟩ = false by decide +kernel] at C1
      clear p1
      go_wp2_with fail
      refine C1.mono ?_
      rintro _ w2 ⟨rfl, p2, f2⟩
      have HF2 : Hid (Fr no w w2) := fr_tw HF1.out HS.out f2
      clear C1 f2 HF1
      have C2 := p2.vwrite (by decide) 1 9 4 (in_s 9 (by decide)) (in_s 4 (by decide))
      clear p2
      go_wp2_with fail
      refine C2.mono ?_
      rintro _ w3 ⟨rfl, p3, f3⟩
      have HF3 : Hid (Fr no w w3) := fr_tw HF2.out HS.out f3
      clear C2 f3 HF2
      have C3 := p3.vread (by decide) 2 9 4 (in_s 9 (by decide)) (in_s 4 (by decide))
      clear p3
      go_wp2_with fail
      refine C3.mono ?_
      rintro _ w4 ⟨rfl, p4, f4⟩
      have HF4 : Hid (Fr no w w4) := fr_tw HF3.out HS.out f4
      clear C3 f4 HF3
      have C4 := p4.read (by decide) 2 5 0 (in_s 2 (by decide)) (in_s 5 (by decide)) in_0
      rw [show touB (acqP (relP (touF (fun _ => none) ⟨5, 1, 5, 0⟩) 1 ⟨3, 0, 9, 4⟩) 2 ⟨3, 0, 9, 4⟩) ⟨4, 2, 5, 0⟩ = false by decide +kernel] at C4
      clear p4
      go_wp2_with fail
      refine C4.mono ?_
      rintro _ w5 ⟨rfl, p5, f5⟩
      have HF5 : Hid (Fr no w w5) := fr_tw HF4.out HS.out f5
      clear C4 f5 HF4
      clear p5
      go_wp2_with fail
      go_ret
      exact ⟨rfl, HF5.out⟩
    · have K0 := known_any w
      go_enter Try.func7, Try.ntmps7
      go_wp2_with fail
      refine K0.mono ?_
      rintro _ w0 ⟨rfl, f0⟩
      have N1 := ps_new w0 w0.heap.size (Nat.le_refl _)
      have HS : Hid (w.heap.size ≤ w0.heap.size) := f0.size
      have HF0 : Hid (Fr no w w0) := f0
      generalize w0.heap.size = p at *
      clear K0 f0
      go_wp2_with fail
      refine N1.mono ?_
      rintro _ w1 ⟨rfl, p1, f1⟩
      have HF1 : Hid (Fr no w w1) := HF0.out.and f1
      clear N1 f1 HF0
      have C1 := p1.vread (by decide) 2 9 4 (in_s 9 (by decide)) (in_s 4 (by decide))
      clear p1
      go_wp2_with fail
      refine C1.mono ?_
      rintro _ w2 ⟨rfl, p2, f2⟩
      have HF2 : Hid (Fr no w w2) := fr_tw HF1.out HS.out f2
      clear C1 f2 HF1
      have C2 := p2.write (by decide) 1 5 0 (in_s 1 (by decide)) (in_s 5 (by decide)) in_0
      rw [show touB (acqP (fun _ => none) 2 ⟨3, 0, 9, 4⟩) ⟨5, 1, 5, 0⟩ = false by decide +kernel] at C2
      clear p2
      go_wp2_with fail
      refine C2.mono ?_
      rintro _ w3 ⟨rfl, p3, f3⟩
      have HF3 : Hid (Fr no w w3) := fr_tw HF2.out HS.out f3
      clear C2 f3 HF2
      have C3 := p3.vwrite (by decide) 1 9 4 (in_s 9 (by decide)) (in_s 4 (by decide))
      clear p3
      go_wp2_with fail
      refine C3.mono ?_
      rintro _ w4 ⟨rfl, p4, f4⟩
      have HF4 : Hid (Fr no w w4) := fr_tw HF3.out HS.out f4
      clear C3 f4 HF3
      have C4 := p4.vread (by decide) 2 9 4 (in_s 9 (by decide)) (in_s 4 (by decide))
      clear p4
      go_wp2_with fail
      refine C4.mono ?_
      rintro _ w5 ⟨rfl, p5, f5⟩
      have HF5 : Hid (Fr no w w5) := fr_tw HF4.out HS.out f5
      clear C4 f5 HF4
      have C5 := p5.read (by decide) 2 5 0 (in_s 2 (by decide)) (in_s 5 (by decide)) in_0
      rw [show touB (acqP (relP (touF (acqP (fun _ => none) 2 ⟨3, 0, 9, 4⟩) ⟨5, 1, 5, 0⟩) 1 ⟨3, 0, 9, 4⟩) 2 ⟨3, 0, 9, 4⟩) ⟨4, 2, 5, 0⟩ = false by decide +kernel] at C5
      clear p5
      go_wp2_with fail
      refine C5.mono ?_
      rintro _ w6 ⟨rfl, p6, f6⟩
      have HF6 : Hid (Fr no w w6) := fr_tw HF5.out HS.out f6
      clear C5 f6 HF5
      clear p6
      go_wp2_with fail
      go_ret
      exact ⟨rfl, HF6.out⟩

set_option maxRecDepth 100000 in
set_option maxHeartbeats 1000000 in
theorem begun_all (w : World) (a b : Bool) : Calls Try.prog 6 #[.bool a, .bool b] w fun e w' => e = .returned (.bool true) ∧ Fr no w w' := by
  cases a
  · cases b
    · have K0 := known_any w
      go_enter Try.func6, Try.ntmps6
      go_wp2_with fail
      refine K0.mono ?_
      rintro _ w0 ⟨rfl, f0⟩
      have N1 := ps_new w0 w0.heap.size (Nat.le_refl _)
      have HS : Hid (w.heap.size ≤ w0.heap.size) := f0.size
      have HF0 : Hid (Fr no w w0) := f0
      generalize w0.heap.size = p at *
      clear K0 f0
      go_wp2_with fail
      refine N1.mono ?_
      rintro _ w1 ⟨rfl, p1, f1⟩
      have HF1 : Hid (Fr no w w1) := HF0.out.and f1
      clear N1 f1 HF0
      have C1 := p1.write (by decide) 1 5 0 (in_s 1 (by decide)) (in_s 5 (by decide)) in_0
      rw [show touB (fun _ => none) ⟨5, 1, 5, 0⟩ = false by decide +kernel] at C1
      clear p1
      go_wp2_with fail
      refine C1.mono ?_
      rintro _ w2 ⟨rfl, p2, f2⟩
      have HF2 : Hid (Fr no w w2) := fr_tw HF1.out HS.out f2
      clear C1 f2 HF1
      have C2 := p2.begin (by decide) 2 1 
      clear p2
      go_wp2_with fail
      refine C2.mono ?_
      rintro _ w3 ⟨rfl, p3, f3⟩
      have HF3 : Hid (Fr no w w3) := fr_tw HF2.out HS.out f3
      clear C2 f3 HF2
      have C3 := p3.write (by decide) 2 5 0 (in_s 2 (by decide)) (in_s 5 (by decide)) in_0
      rw [show touB (beginP (touF (fun _ => none) ⟨5, 1, 5, 0⟩) 2 1) ⟨5, 2, 5, 0⟩ = false by decide +kernel] at C3
      clear p3
      go_wp2_with fail
      refine C3.mono ?_
      rintro _ w4 ⟨rfl, p4, f4⟩
      have HF4 : Hid (Fr no w w4) := fr_tw HF3.out HS.out f4
      clear C3 f4 HF3
      have C4 := p4.end_ (by decide) 2 
      clear p4
      go_wp2_with fail
      refine C4.mono ?_
      rintro _ w5 ⟨rfl, p5, f5⟩
      have HF5 : Hid (Fr no w w5) := fr_tw HF4.out HS.out f5
      clear C4 f5 HF4
      have C5 := p5.begin (by decide) 3 1 
      clear p5
      go_wp2_with fail
      refine C5.mono ?_
      rintro _ w6 ⟨rfl, p6, f6⟩
      have HF6 : Hid (Fr no w w6) := fr_tw HF5.out HS.out f6
      clear C5 f6 HF5
      have C6 := p6.read (by decide) 3 5 0 (in_s 3 (by decide)) (in_s 5 (by decide)) in_0
      rw [show touB (beginP (endP (touF (beginP (touF (fun _ => none) ⟨5, 1, 5, 0⟩) 2 1) ⟨5, 2, 5, 0⟩) 2) 3 1) ⟨4, 3, 5, 0⟩ = true by decide +kernel] at C6
      clear p6
      go_wp2_with fail
      refine C6.mono ?_
      rintro _ w7 ⟨rfl, p7, f7⟩
      have HF7 : Hid (Fr no w w7) := fr_tw HF6.out HS.out f7
      clear C6 f7 HF6
      clear p7
      go_wp2_with fail
      go_ret
      exact ⟨rfl, HF7.out⟩
    · have K0 := known_any w
      go_enter Try.func6, Try.ntmps6
      go_wp2_with fail
      refine K0.mono ?_
      rintro _ w0 ⟨rfl, f0⟩
      have N1 := ps_new w0 w0.heap.size (Nat.le_refl _)
      have HS : Hid (w.heap.size ≤ w0.heap.size) := f0.size
      have HF0 : Hid (Fr no w w0) := f0
      generalize w0.heap.size = p at *
      clear K0 f0
      go_wp2_with fail
      refine N1.mono ?_
      rintro _ w1 ⟨rfl, p1, f1⟩
      have HF1 : Hid (Fr no w w1) := HF0.out.and f1
      clear N1 f1 HF0
      have C1 := p1.write (by decide) 1 5 0 (in_s 1 (by decide)) (in_s 5 (by decide)) in_0
      rw [show touB (fun _ => none) ⟨5, 1, 5, 0⟩ = false by decide +kernel] at C1
      clear p1
      go_wp2_with fail
      refine C1.mono ?_
      rintro _ w2 ⟨rfl, p2, f2⟩
      have HF2 : Hid (Fr no w w2) := fr_tw HF1.out HS.out f2
      clear C1 f2 HF1
      have C2 := p2.begin (by decide) 2 1 
      clear p2
      go_wp2_with fail
      refine C2.mono ?_
      rintro _ w3 ⟨rfl, p3, f3⟩
      have HF3 : Hid (Fr no w w3) := fr_tw HF2.out HS.out f3
      clear C2 f3 HF2
      have C3 := p3.write (by decide) 2 5 0 (in_s 2 (by decide)) (in_s 5 (by decide)) in_0
      rw [show touB (beginP (touF (fun _ => none) ⟨5, 1, 5, 0⟩) 2 1) ⟨5, 2, 5, 0⟩ = false by decide +kernel] at C3
      clear p3
      go_wp2_with fail
      refine C3.mono ?_
      rintro _ w4 ⟨rfl, p4, f4⟩
      have HF4 : Hid (Fr no w w4) := fr_tw HF3.out HS.out f4
      clear C3 f4 HF3
      have C4 := p4.end_ (by decide) 2 
      clear p4
      go_wp2_with fail
      refine C4.mono ?_
      rintro _ w5 ⟨rfl, p5, f5⟩
      have HF5 : Hid (Fr no w w5) := fr_tw HF4.out HS.out f5
      clear C4 f5 HF4
      have C5 := p5.joined (by decide) 1 2 (in_s 2 (by decide))
      clear p5
      go_wp2_with fail
      refine C5.mono ?_
      rintro _ w6 ⟨rfl, p6, f6⟩
      have HF6 : Hid (Fr no w w6) := fr_tw HF5.out HS.out f6
      clear C5 f6 HF5
      have C6 := p6.begin (by decide) 3 1 
      clear p6
      go_wp2_with fail
      refine C6.mono ?_
      rintro _ w7 ⟨rfl, p7, f7⟩
      have HF7 : Hid (Fr no w w7) := fr_tw HF6.out HS.out f7
      clear C6 f7 HF6
      have C7 := p7.read (by decide) 3 5 0 (in_s 3 (by decide)) (in_s 5 (by decide)) in_0
      rw [show touB (beginP (acqP (endP (touF (beginP (touF (fun _ => none) ⟨5, 1, 5, 0⟩) 2 1) ⟨5, 2, 5, 0⟩) 2) 1 ⟨1, 2, 0, 0⟩) 3 1) ⟨4, 3, 5, 0⟩ = false by decide +kernel] at C7
      clear p7
      go_wp2_with fail
      refine C7.mono ?_
      rintro _ w8 ⟨rfl, p8, f8⟩
      have HF8 : Hid (Fr no w w8) := fr_tw HF7.out HS.out f8
      clear C7 f8 HF7
      clear p8
      go_wp2_with fail
      go_ret
      exact ⟨rfl, HF8.out⟩
  · cases b
    · have K0 := known_any w
      go_enter Try.func6, Try.ntmps6
      go_wp2_with fail
      refine K0.mono ?_
      rintro _ w0 ⟨rfl, f0⟩
      have N1 := ps_new w0 w0.heap.size (Nat.le_refl _)
      have HS : Hid (w.heap.size ≤ w0.heap.size) := f0.size
      have HF0 : Hid (Fr no w w0) := f0
      generalize w0.heap.size = p at *
      clear K0 f0
      go_wp2_with fail
      refine N1.mono ?_
      rintro _ w1 ⟨rfl, p1, f1⟩
      have HF1 : Hid (Fr no w w1) := HF0.out.and f1
      clear N1 f1 HF0
      have C1 := p1.write (by decide) 1 5 0 (in_s 1 (by decide)) (in_s 5 (by decide)) in_0
      rw [show touB (fun _ => none) ⟨5, 1, 5, 0⟩ = false by decide +kernel] at C1
      clear p1
      go_wp2_with fail
      refine C1.mono ?_
      rintro _ w2 ⟨rfl, p2, f2⟩
      have HF2 : Hid (Fr no w w2) := fr_tw HF1.out HS.out f2
      clear C1 f2 HF1
      have C2 := p2.begin (by decide) 2 1 
      clear p2
      go_wp2_with fail
      refine C2.mono ?_
      rintro _ w3 ⟨rfl, p3, f3⟩
      have HF3 : Hid (Fr no w w3) := fr_tw HF2.out HS.out f3
      clear C2 f3 HF2
      have C3 := p3.write (by decide) 2 5 0 (in_s 2 (by decide)) (in_s 5 (by decide)) in_0
      rw [show touB (beginP (touF (fun _ => none) ⟨5, 1, 5, 0⟩) 2 1) ⟨5, 2, 5, 0⟩ = false by decide +kernel] at C3
      clear p3
      go_wp2_with fail
      refine C3.mono ?_
      rintro _ w4 ⟨rfl, p4, f4⟩
      have HF4 : Hid (Fr no w w4) := fr_tw HF3.out HS.out f4
      clear C3 f4 HF3
      have C4 := p4.end_ (by decide) 2 
      clear p4
      go_wp2_with fail
      refine C4.mono ?_
      rintro _ w5 ⟨rfl, p5, f5⟩
      have HF5 : Hid (Fr no w w5) := fr_tw HF4.out HS.out f5
      clear C4 f5 HF4
      have C5 := p5.write (by decide) 1 5 0 (in_s 1 (by decide)) (in_s 5 (by decide)) in_0
      rw [show touB (endP (touF (beginP (touF (fun _ => none) ⟨5, 1, 5, 0⟩) 2 1) ⟨5, 2, 5, 0⟩) 2) ⟨5, 1, 5, 0⟩ = true by decide +kernel] at C5
      clear p5
      go_wp2_with fail
      refine C5.mono ?_
      rintro _ w6 ⟨rfl, p6, f6⟩
      have HF6 : Hid (Fr no w w6) := fr_tw HF5.out HS.out f6
      clear C5 f6 HF5
      clear p6
      go_wp2_with fail
      go_ret
      exact ⟨rfl, HF6.out⟩
    · have K0 := known_any w
      go_enter Try.func6, Try.ntmps6
      go_wp2_with fail
      refine K0.mono ?_
      rintro _ w0 ⟨rfl, f0⟩
      have N1 := ps_new w0 w0.heap.size (Nat.le_refl _)
      have HS : Hid (w.heap.size ≤ w0.heap.size) := f0.size
      have HF0 : Hid (Fr no w w0) := f0
      generalize w0.heap.size = p at *
      clear K0 f0
      go_wp2_with fail
      refine N1.mono ?_
      rintro _ w1 ⟨rfl, p1, f1⟩
      have HF1 : Hid (Fr no w w1) := HF0.out.and f1
      clear N1 f1 HF0
      have C1 := p1.write (by decide) 1 5 0 (in_s 1 (by decide)) (in_s 5 (by decide)) in_0
      rw [show touB (fun _ => none) ⟨5, 1, 5, 0⟩ = false by decide +kernel] at C1
      clear p1
      go_wp2_with fail
      refine C1.mono ?_
      rintro _ w2 ⟨rfl, p2, f2⟩
      have HF2 : Hid (Fr no w w2) := fr_tw HF1.out HS.out f2
      clear C1 f2 HF1
      have C2 := p2.begin (by decide) 2 1 
      clear p2
      go_wp2_with fail
      refine C2.mono ?_
      rintro _ w3 ⟨rfl, p3, f3⟩
      have HF3 : Hid (Fr no w w3) := fr_tw HF2.out HS.out f3
      clear C2 f3 HF2
      have C3 := p3.write (by decide) 2 5 0 (in_s 2 (by decide)) (in_s 5 (by decide)) in_0
      rw [show touB (beginP (touF (fun _ => none) ⟨5, 1, 5, 0⟩) 2 1) ⟨5, 2, 5, 0⟩ = false by decide +kernel] at C3
      clear p3
      go_wp2_with fail
      refine C3.mono ?_
      rintro _ w4 ⟨rfl, p4, f4⟩
      have HF4 : Hid (Fr no w w4) := fr_tw HF3.out HS.out f4
      clear C3 f4 HF3
      have C4 := p4.end_ (by decide) 2 
      clear p4
      go_wp2_with fail
      refine C4.mono ?_
      rintro _ w5 ⟨rfl, p5, f5⟩
      have HF5 : Hid (Fr no w w5) := fr_tw HF4.out HS.out f5
      clear C4 f5 HF4
      have C5 := p5.joined (by decide) 1 2 (in_s 2 (by decide))
      clear p5
      go_wp2_with fail
      refine C5.mono ?_
      rintro _ w6 ⟨rfl, p6, f6⟩
      have HF6 : Hid (Fr no w w6) := fr_tw HF5.out HS.out f6
      clear C5 f6 HF5
      have C6 := p6.write (by decide) 1 5 0 (in_s 1 (by decide)) (in_s 5 (by decide)) in_0
      rw [show touB (acqP (endP (touF (beginP (touF (fun _ => none) ⟨5, 1, 5, 0⟩) 2 1) ⟨5, 2, 5, 0⟩) 2) 1 ⟨1, 2, 0, 0⟩) ⟨5, 1, 5, 0⟩ = false by decide +kernel] at C6
      clear p6
      go_wp2_with fail
      refine C6.mono ?_
      rintro _ w7 ⟨rfl, p7, f7⟩
      have HF7 : Hid (Fr no w w7) := fr_tw HF6.out HS.out f7
      clear C6 f7 HF6
      clear p7
      go_wp2_with fail
      go_ret
      exact ⟨rfl, HF7.out⟩
end Go.Proofs.Ytnineggppoipiaa
