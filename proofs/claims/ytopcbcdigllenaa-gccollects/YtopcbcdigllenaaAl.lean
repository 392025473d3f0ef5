/- Alloc. -/
import Derived.Test.YtopcbcdigllenaaPl
import Derived.Test.YtopcbcdigllenaaJn
import Derived.Test.YtopcbcdigllenaaLs
import Derived.Test.YtopcbcdigllenaaNw
namespace Go.Proofs.Ytopcbcdigllenaa
open Go.ChangeShapes Go.WideShapes Go.ChangeAt Go.RowKit

def errM (o : Option Nat) : Int := if o.isSome then 0 else 110

set_option maxRecDepth 100000 in
theorem alloc_nat (w : World) (p g : Nat) (bs : List Blk) (h : HP w p g bs) (c n : Nat) (hc : c < 9223372036854775808) :
    Calls Try.prog 11 #[.pointer (some ⟨p, 0, none⟩), .int .i64 (c : Int), .int .i64 (n : Int)] w fun e w' => e = .returned (.tuple #[.int .i64 (rmA (roomAt n bs)), .int .i64 (errM (roomAt n bs))]) ∧ HP w' p g (allocB c n bs) ∧ Fr (fun k => k = g) w w' := by
  have RM := room_any w p g bs h n
  cases hr : roomAt n bs with
  | none =>
    rw [hr] at RM
    have HA : Hid (allocB c n bs = bs) := (roomAt_none hr).2 c
    have HH : Hid (HP w p g bs) := h
    clear h hr
    simp only [rmA] at RM
    go_enter Try.func11, Try.ntmps11
    go_wp2_with fail
    refine RM.mono ?_
    rintro e w1 ⟨rfl, m1, rfl⟩
    go_wp2_with fail
    go_ret2
    exact ⟨rfl, by rw [HA.out]; exact HH.out.drewN m1, (Fr.refl _ w).drewN m1⟩
  | some o =>
    rw [hr] at RM
    obtain ⟨pre, j, post, he, ho, hj, hal⟩ := roomAt_split hr
    have PL : ∀ m, Calls Try.prog 38 #[.pointer (some ⟨p, 0, none⟩), .int .i64 ((o : Int) + 1), .int .i64 (c : Int), .int .i64 (n : Int)] (w.drewN m) fun e w' => e = .returned (.tuple #[]) ∧ HP w' p g (allocB c n bs) ∧ Fr (fun k => k = g) w w' := fun m => by
      have h1 : HP (w.drewN m) p g (pre ++ .free j :: post) := by rw [← he]; exact h.drewN m
      have := place_any (w.drewN m) p g pre post j h1 c n hc hj
      rw [← hal c, ← ho] at this
      exact this.mono fun e w' ⟨a1, a2, a3⟩ => ⟨a1, a2, ((Fr.refl (fun k => k = g) w).drewN m).trans a3 (fun _ _ x => x) (fun _ _ x => x)⟩
    clear h hr he hj hal ho
    simp only [rmA] at RM
    have hne : ((o : Int) + 1 == 0) = false := by simp; omega
    go_enter Try.func11, Try.ntmps11
    go_wp2_with fail
    refine RM.mono ?_
    rintro e w1 ⟨rfl, m1, rfl⟩
    go_wp2_with fail
    refine (PL m1).mono ?_
    rintro e w2 ⟨rfl, h2, f2⟩
    have H2 : Hid (HP w2 p g (allocB c n bs) ∧ Fr (fun k => k = g) w w2) := ⟨h2, f2⟩
    clear h2 f2
    go_wp2_with fail
    go_ret2
    exact ⟨rfl, H2.out.1, H2.out.2⟩

set_option maxRecDepth 100000 in
theorem alloc_bad (w : World) (p : Nat) (c n : Int) (h : c < 0 ∨ n < 0) :
    Calls Try.prog 11 #[.pointer (some ⟨p, 0, none⟩), .int .i64 c, .int .i64 n] w fun e w' => e = .returned (.tuple #[.int .i64 0, .int .i64 111]) ∧ w' = w := by
  by_cases hc : c < 0
  · go_enter Try.func11, Try.ntmps11
    go_wp2_with fail
    go_ret2
    exact ⟨rfl, rfl⟩
  · have hn : n < 0 := by omega
    have hcd : decide (c < 0) = false := decide_eq_false hc
    go_enter Try.func11, Try.ntmps11
    go_wp2_with fail
    go_ret2
    exact ⟨rfl, rfl⟩
end Go.Proofs.Ytopcbcdigllenaa
