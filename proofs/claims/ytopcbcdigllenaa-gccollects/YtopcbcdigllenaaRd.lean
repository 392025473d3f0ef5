/- A block's first word: length, isObject, lay. -/
import Derived.Test.YtopcbcdigllenaaBlk
import Derived.Laws.BitsAllLaws
namespace Go.Proofs.Ytopcbcdigllenaa
open Go.ChangeShapes Go.WideShapes Go.ChangeAt Go.RowKit

theorem and_bit (n t : Nat) (hn : n ≤ 4096) (ht : t ≤ 1) : bits .and .u64 (2 * (n : Int) + (t : Int)) 1 = (t : Int) := by
  have := u64_and_nat (2 * n + t) 1 (by omega) (by omega)
  rw [Nat.and_one_is_mod, show (2 * n + t) % 2 = t by omega] at this
  simpa using this

theorem or_bit (n t : Nat) (hn : n ≤ 4096) (ht : t ≤ 1) : bits .or .u64 (IntKind.u64.wrap (IntKind.u64.wrap (n : Int) * 2)) (t : Int) = ((2 * n + t : Nat) : Int) := by
  have e : IntKind.u64.wrap (IntKind.u64.wrap (n : Int) * 2) = ((2 * n : Nat) : Int) := by
    rw [IntKind.wrap_u64, IntKind.wrap_u64]
    omega
  rw [e, u64_or_nat _ _ (by omega) (by omega), nat_join 1 _ _ (by omega) (by omega)]

theorem length_any (w : World) (p g : Nat) (W : List Nat) (h : HW w p g W) (k n t : Nat) (hk : W[k]? = some (2 * n + t)) (hn : n ≤ 4096) (ht : t ≤ 1) :
    Calls Try.prog 41 #[.pointer (some ⟨p, 0, none⟩), .int .i64 ((k : Int) + 1)] w fun e w' => e = .returned (.int .i64 (n : Int)) ∧ ∃ m, w' = w.drewN m := by
  have hc := h.cell
  have hl := h.len
  have hx := h.word hk
  have hlt : k < W.length := (List.getElem?_eq_some_iff.1 hk).1
  have hi : (k : Int) < (W.length : Int) := by omega
  clear h hk
  generalize W.length = q at *
  go_enter Try.func41, Try.ntmps41
  go_wp2_with fail
  go_quiet ((go_at_call 55; exact Calls.quiet_of_same (lengthOf_any _ k (by omega))))
  go_wp2_with fail
  go_ret
  refine ⟨?_, nq, rfl⟩
  show Ending.returned (.int .i64 ((2 * (n : Int) + (t : Int)) / 2)) = _
  congr 2
  omega

theorem isObject_any (w : World) (p g : Nat) (W : List Nat) (h : HW w p g W) (k n t : Nat) (hk : W[k]? = some (2 * n + t)) (hn : n ≤ 4096) (ht : t ≤ 1) :
    Calls Try.prog 54 #[.pointer (some ⟨p, 0, none⟩), .int .i64 ((k : Int) + 1)] w fun e w' => e = .returned (.bool (t == 1)) ∧ ∃ m, w' = w.drewN m := by
  have hc := h.cell
  have hl := h.len
  have hx := h.word hk
  have hlt : k < W.length := (List.getElem?_eq_some_iff.1 hk).1
  have hi : (k : Int) < (W.length : Int) := by omega
  clear h hk
  generalize W.length = q at *
  go_enter Try.func54, Try.ntmps54
  go_wp2_with fail
  go_quiet ((go_at_call 55; exact Calls.quiet_of_same (lengthOf_any _ k (by omega))))
  go_wp2_with fail
  go_ret
  refine ⟨?_, nq, rfl⟩
  show Ending.returned (.bool (bits .and .u64 (2 * (n : Int) + (t : Int)) 1 == 1)) = _
  rw [and_bit n t hn ht]
  congr 2
  rcases (by omega : t = 0 ∨ t = 1) with rfl | rfl <;> rfl

theorem lay_any (w : World) (p g : Nat) (W : List Nat) (h : HW w p g W) (k n t : Nat) (hk : k < W.length) (hn : n ≤ 4096) (ht : t ≤ 1) :
    Calls Try.prog 36 #[.pointer (some ⟨p, 0, none⟩), .int .i64 ((k : Int) + 1), .int .i64 (n : Int), .int .u64 (t : Int)] w fun e w' => e = .returned (.tuple #[]) ∧ HW w' p g (W.set k (2 * n + t)) ∧ Fr (fun k => k = g) w w' := by
  have hc := h.cell
  have hl := h.len
  obtain ⟨x, hx0⟩ : ∃ x, W[k]? = some x := ⟨_, List.getElem?_eq_getElem hk⟩
  have hx := h.word hx0
  have hz := h.thaw k
  have HH : Hid (HW w p g W) := h
  have hi : (k : Int) < (W.length : Int) := by omega
  clear h hx0
  generalize W.length = q at *
  go_enter Try.func36, Try.ntmps36
  go_wp2_with fail
  go_region_with ((go_at_call 55; refine (lengthOf_any _ k (by omega)).mono ?_; rintro e w1 ⟨rfl, rfl⟩))
  all_goals
    rw [or_bit n t hn ht]
    have HS := HH.out.set k (2 * n + t)
    go_end0
    exact ⟨rfl, HS.1.drewN 1, HS.2.drew⟩
end Go.Proofs.Ytopcbcdigllenaa
