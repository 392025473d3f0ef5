/- Classes each below the one ahead of it: what is asked of them, without memory. -/
import Derived.Test.YtabiagheflkiaaaRound
namespace Go.Proofs.Ytabiagheflkiaaa

/-- The one ahead of the i-th. -/
def ahead (i : Nat) : ByteArray := if i = 0 then t0 else ABC.extract (i - 1) i
def aheads (k : Nat) : List ByteArray := (List.range k).map ahead
def lineN (k : Nat) : List ByteArray := [obj, fault] ++ greats k
def lineA (k : Nat) : List Nat := [0, 0] ++ (List.range k).map fun i => if i = 0 then 0 else i + 1
def letterAt (i : Nat) : ByteArray := ABC.extract i (i + 1)
def none4 : ByteArray := ⟨#[78, 111, 110, 101]⟩

theorem aheads_next (k : Nat) : aheads (k + 1) = aheads k ++ [ahead k] := by unfold aheads; rw [List.range_succ, List.map_append]; rfl

theorem line_new : ∀ k : Fin 16, newH (greats k.val) (aheads k.val) = (0, lineN k.val, lineA k.val) := by decide +kernel

def lineOk (k x y : Nat) : Bool :=
  (inL (letterAt y) (anc (lineN k) (lineA k) (letterAt x)) == decide (y ≤ x)) && decide (shared (anc (lineN k) (lineA k) (letterAt x)) (anc (lineN k) (lineA k) (letterAt y)) = letterAt (min x y))

def lineOk1 (k x : Nat) : Bool :=
  decide ((anc (lineN k) (lineA k) (letterAt x)).length = x + 2) && !inL (letterAt x) (anc (lineN k) (lineA k) obj) && decide (shared (anc (lineN k) (lineA k) (letterAt x)) (anc (lineN k) (lineA k) fault) = obj) && decide (shared (anc (lineN k) (lineA k) (letterAt x)) (anc (lineN k) (lineA k) none4) = t0)

theorem line_ok1 : ∀ k : Fin 16, ∀ x : Fin 15, x.val < k.val → lineOk1 k.val x.val = true := by decide +kernel
theorem line_ok : ∀ k : Fin 16, ∀ x y : Fin 15, x.val < k.val → y.val < k.val → lineOk k.val x.val y.val = true := by decide +kernel
end Go.Proofs.Ytabiagheflkiaaa
