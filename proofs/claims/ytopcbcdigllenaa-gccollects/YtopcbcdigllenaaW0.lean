/- Pieces of the translated function, found by their numbers. -/
import Derived.Test.YtopcbcdigllenaaWq
import Derived.Test.YtopcbcdigllenaaAb
import Derived.Test.YtopcbcdigllenaaVw
import Derived.Test.YtopcbcdigllenaaKn
import Derived.Deep.CutBlock
import Derived.Deep.DeepCutAuto
namespace Go.Proofs.Ytopcbcdigllenaa

/-- The block of that number. -/
def blockOf (n : Nat) : Code → Option Code
  | .block m c => if m = n then some (.block m c) else blockOf n c
  | .seq a b => match blockOf n a with
    | some c => some c
    | none => blockOf n b
  | .cond _ a b => match blockOf n a with
    | some c => some c
    | none => blockOf n b
  | .loop c => blockOf n c
  | .scope c => blockOf n c
  | _ => none

/-- The branching on that slot. -/
def branchOf (n : Nat) : Code → Option Code
  | .cond (.tmp m) a b => if m = n then some (.cond (.tmp m) a b) else match branchOf n a with
    | some c => some c
    | none => branchOf n b
  | .block _ c => branchOf n c
  | .seq a b => match branchOf n a with
    | some c => some c
    | none => branchOf n b
  | .loop c => branchOf n c
  | .scope c => branchOf n c
  | _ => none

end Go.Proofs.Ytopcbcdigllenaa
