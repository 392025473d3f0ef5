/- What is known of an arena of ten words. -/
import Derived.Test.YtopcbcdigllenaaAl
namespace Go.Proofs.Ytopcbcdigllenaa
open Go.ChangeShapes Go.WideShapes Go.ChangeAt Go.RowKit

def kb0 : List Blk := [.free [0, 0, 0, 0, 0, 0, 0, 0, 0]]
def kb1 : List Blk := [.obj 5 [0, 0, 0], .free [0, 0, 0, 0]]
def kb2 : List Blk := [.obj 5 [0, 0, 0], .obj 5 [0, 0, 0]]

set_option maxRecDepth 100000 in
set_option maxHeartbeats 1000000 in
theorem known_any (w : World) : Calls Try.prog 8 #[] w fun e w' => e = .returned (.bool true) ∧ Fr no w w' := by
  have NW : Calls Try.prog 9 #[.int .i64 10] w fun e w' => e = .returned (.pointer (some ⟨w.heap.size + 1, 0, none⟩)) ∧ HP w' (w.heap.size + 1) w.heap.size kb0 ∧ Fr no w w' := new_any w 10
  have A1 : Hid (∀ w1, HP w1 (w.heap.size + 1) w.heap.size kb0 → Fr no w w1 → Calls Try.prog 11 #[.pointer (some ⟨w.heap.size + 1, 0, none⟩), .int .i64 5, .int .i64 3] w1 fun e w' => e = .returned (.tuple #[.int .i64 1, .int .i64 0]) ∧ HP w' (w.heap.size + 1) w.heap.size kb1 ∧ Fr no w w') := fun w1 h1 f1 =>
    (alloc_nat w1 _ _ _ h1 5 3 (by decide)).mono fun e w' ⟨a, b, c⟩ => ⟨a, b, f1.new c (fun i hi e => by omega)⟩
  have A2 : Hid (∀ w1, HP w1 (w.heap.size + 1) w.heap.size kb1 → Fr no w w1 → Calls Try.prog 11 #[.pointer (some ⟨w.heap.size + 1, 0, none⟩), .int .i64 5, .int .i64 3] w1 fun e w' => e = .returned (.tuple #[.int .i64 6, .int .i64 0]) ∧ HP w' (w.heap.size + 1) w.heap.size kb2 ∧ Fr no w w') := fun w1 h1 f1 =>
    (alloc_nat w1 _ _ _ h1 5 3 (by decide)).mono fun e w' ⟨a, b, c⟩ => ⟨a, b, f1.new c (fun i hi e => by omega)⟩
  have A3 : Hid (∀ w1, HP w1 (w.heap.size + 1) w.heap.size kb2 → Fr no w w1 → Calls Try.prog 11 #[.pointer (some ⟨w.heap.size + 1, 0, none⟩), .int .i64 5, .int .i64 0] w1 fun e w' => e = .returned (.tuple #[.int .i64 0, .int .i64 110]) ∧ HP w' (w.heap.size + 1) w.heap.size kb2 ∧ Fr no w w') := fun w1 h1 f1 =>
    (alloc_nat w1 _ _ _ h1 5 0 (by decide)).mono fun e w' ⟨a, b, c⟩ => ⟨a, b, f1.new c (fun i hi e => by omega)⟩
  have A4 : Hid (∀ w1, HP w1 (w.heap.size + 1) w.heap.size kb2 → Fr no w w1 → Calls Try.prog 29 #[.pointer (some ⟨w.heap.size + 1, 0, none⟩)] w1 fun e w' => (∃ o c, e = .returned (.slice o 0 c)) ∧ HP w' (w.heap.size + 1) w.heap.size kb2 ∧ Fr no w w') := fun w1 h1 f1 =>
    (free_any w1 _ _ _ h1).mono fun e w' ⟨v, a, b, c, d⟩ => ⟨by obtain ⟨o, cp, hv⟩ := b.form; rw [a, hv]; exact ⟨o, cp, rfl⟩, h1.keep d, f1.and d⟩
  have A5 : Hid (∀ w1, HP w1 (w.heap.size + 1) w.heap.size kb2 → Fr no w w1 → Calls Try.prog 13 #[.pointer (some ⟨w.heap.size + 1, 0, none⟩), .int .i64 2] w1 fun e w' => e = .returned (.int .i64 111) ∧ HP w' (w.heap.size + 1) w.heap.size kb2 ∧ Fr no w w') := fun w1 h1 f1 =>
    (release_any w1 _ _ _ h1 2 (by decide)).mono fun e w' ⟨a, b, c⟩ => ⟨a, b, f1.new c (fun i hi e => by omega)⟩
  have A6 : Hid (∀ w1, HP w1 (w.heap.size + 1) w.heap.size kb2 → Fr no w w1 → Calls Try.prog 13 #[.pointer (some ⟨w.heap.size + 1, 0, none⟩), .int .i64 1] w1 fun e w' => e = .returned (.int .i64 0) ∧ Fr no w w') := fun w1 h1 f1 =>
    (release_any w1 _ _ _ h1 1 (by decide)).mono fun e w' ⟨a, b, c⟩ => ⟨a, f1.new c (fun i hi e => by omega)⟩
  generalize w.heap.size + 1 = p at *
  generalize w.heap.size = g at *
  go_enter Try.func8, Try.ntmps8
  go_wp2_with fail
  refine NW.mono ?_
  rintro e w1 ⟨rfl, h1, f1⟩
  have C1 := A1.out w1 h1 f1
  clear h1 f1
  go_wp2_with fail
  refine C1.mono ?_
  rintro e w2 ⟨rfl, h2, f2⟩
  have C2 := A2.out w2 h2 f2
  clear h2 f2
  go_wp2_with fail
  refine C2.mono ?_
  rintro e w3 ⟨rfl, h3, f3⟩
  have C3 := A3.out w3 h3 f3
  clear h3 f3
  go_wp2_with fail
  refine C3.mono ?_
  rintro e w4 ⟨rfl, h4, f4⟩
  have C4 := A4.out w4 h4 f4
  clear h4 f4
  go_wp2_with fail
  refine C4.mono ?_
  rintro e w5 ⟨⟨ov, cv, rfl⟩, h5, f5⟩
  have C5 := A5.out w5 h5 f5
  clear h5 f5
  go_wp2_with fail
  refine C5.mono ?_
  rintro e w6 ⟨rfl, h6, f6⟩
  have C6 := A6.out w6 h6 f6
  clear h6 f6
  go_wp2_with fail
  refine C6.mono ?_
  rintro e w7 ⟨rfl, f7⟩
  go_wp2_with fail
  go_ret
  exact ⟨rfl, f7⟩
end Go.Proofs.Ytopcbcdigllenaa
