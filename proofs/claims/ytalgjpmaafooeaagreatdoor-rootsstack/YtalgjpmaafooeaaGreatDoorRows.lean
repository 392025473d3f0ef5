/-
  NARROWER THAN 'FOR EVERY INPUT', by the rows' own cells (each row's printed sentence says how): LocksStack: laid · LocksStored: laid · LocksWays: laid · RootsStack: laid.
  DERIVED. THE GIVEN ROWS OF THIS SEAT. 4 by the template 'for every input the law returns true; each argument reads behind the call as it read before'; 0 by the template 'total and deterministic' (their statements: YtalgjpmaafooeaaGreatDoorTotals.lean).
  GIVEN WITH THE SEED: the statements are not yours to turn. If you find one false, say at which input.
  Laid BY PROGRAM, IN A SANDBOX (cutbox-rows.mjs): the forced cells as the released guide's own fill.sh prints them over the translation 0ec95d215bc466ec… (all of the seat's roots in one cut). By AI agents, Wed Nov 11 2026. No macro, syntax, notation, axiom, sorry.
-/
import Derived.Test.YtalgjpmaafooeaaGreatDoorChecked
import GoSem.Claim
import GoSem.ClaimJoined
import GoSem.ClaimMapViews
import Derived.JoinedTies
import Derived.KernelRfl
namespace Go.Proofs.YtalgjpmaafooeaaGreatDoor
/- THE CELL 'sum', in the pinned program and in every row, IS THE sha256 OF THE DUMP (.gsa) THAT YtalgjpmaafooeaaGreatDoorProg.lean LOADS. Nothing in Lean hashes anything: it is a label: what it is worth is what the hold of that sum in a sandbox is worth. -/
noncomputable def Tryz.pinned : Pinned := { name := "ytalgjpmaafooeaagreatdoor", sum := "0ec95d215bc466ec036f47859d294199583eac54d41a22e6d75a4b2e6cdcdfe8", checked := Tryz.checked }
namespace Rows
def none {H : Type} : Left H := { results := [], args := [] }

/- WHAT THE LISTED PACKAGE-LEVEL VARIABLES READ AS WHEN THE CALL BEGINS. Each datum BY PROGRAM (the guide's laid-datum.mjs) off the statement by which the dump's own 'gosem.cut.vars' lays the variable. In a bare row this is a premise. The card (YtalgjpmaafooeaaGreatDoorCards.lean) ties it to the program's text. -/
def laid_loom_code_operands {H : Type} : DataW H := .agg [.lit (.int .i8 0), .lit (.int .i8 2), .lit (.int .i8 2), .lit (.int .i8 0), .lit (.int .i8 1), .lit (.int .i8 1), .lit (.int .i8 0), .lit (.int .i8 0), .lit (.int .i8 0), .lit (.int .i8 0), .lit (.int .i8 0), .lit (.int .i8 0), .lit (.int .i8 0), .lit (.int .i8 0), .lit (.int .i8 0), .lit (.int .i8 0), .lit (.int .i8 0), .lit (.int .i8 0), .lit (.int .i8 0), .lit (.int .i8 0), .lit (.int .i8 0), .lit (.int .i8 0), .lit (.int .i8 3), .lit (.int .i8 3), .lit (.int .i8 3), .lit (.int .i8 2), .lit (.int .i8 2), .lit (.int .i8 2), .lit (.int .i8 0), .lit (.int .i8 0), .lit (.int .i8 0), .lit (.int .i8 0), .lit (.int .i8 2), .lit (.int .i8 0), .lit (.int .i8 0), .lit (.int .i8 0), .lit (.int .i8 2), .lit (.int .i8 2), .lit (.int .i8 1), .lit (.int .i8 1), .lit (.int .i8 0), .lit (.int .i8 0), .lit (.int .i8 0), .lit (.int .i8 2), .lit (.int .i8 0), .lit (.int .i8 0), .lit (.int .i8 0), .lit (.int .i8 0)]
def laid_loom_code_traits {H : Type} : DataW H := .agg [.lit (.int .u8 0), .lit (.int .u8 0), .lit (.int .u8 0), .lit (.int .u8 0), .lit (.int .u8 0), .lit (.int .u8 0), .lit (.int .u8 0), .lit (.int .u8 0), .lit (.int .u8 0), .lit (.int .u8 0), .lit (.int .u8 0), .lit (.int .u8 4), .lit (.int .u8 4), .lit (.int .u8 0), .lit (.int .u8 0), .lit (.int .u8 0), .lit (.int .u8 0), .lit (.int .u8 0), .lit (.int .u8 0), .lit (.int .u8 0), .lit (.int .u8 0), .lit (.int .u8 0), .lit (.int .u8 3), .lit (.int .u8 2), .lit (.int .u8 2), .lit (.int .u8 4), .lit (.int .u8 4), .lit (.int .u8 4), .lit (.int .u8 4), .lit (.int .u8 4), .lit (.int .u8 4), .lit (.int .u8 4), .lit (.int .u8 4), .lit (.int .u8 1), .lit (.int .u8 1), .lit (.int .u8 5), .lit (.int .u8 4), .lit (.int .u8 0), .lit (.int .u8 4), .lit (.int .u8 0), .lit (.int .u8 4), .lit (.int .u8 4), .lit (.int .u8 4), .lit (.int .u8 4), .lit (.int .u8 4), .lit (.int .u8 0), .lit (.int .u8 0), .lit (.int .u8 0)]

/-- 'loomlaw9.LocksStack': WHATEVER THE INPUT: true; the input reads as it did. -/
def locksStackSpec : ChangeSpec := { name := "locksStack", fn := fun _ => fun
  | [d] => { results := [.lit (.bool true)], args := [d] }
  | _ => none }
def locksStackRow : OpenClaim := { program := "ytalgjpmaafooeaagreatdoor", sum := "0ec95d215bc466ec036f47859d294199583eac54d41a22e6d75a4b2e6cdcdfe8", func := "loom/loomlaw9.LocksStack", spec := "locksStack", inPlace := ["math.Float64bits"], unfollowed := true, recurses := true, named := ["loom/code.operands", "loom/code.traits"], plainKeys := false, apart := false, laid := [("loom/code.operands", laid_loom_code_operands), ("loom/code.traits", laid_loom_code_traits)] }
def LocksStackSaid : Prop := locksStackRow.holds Tryz.pinned (OpenSpec.ofChange locksStackSpec)

/-- ITS FALSE NEIGHBOUR: 'it returns false'. Refute it at one input. -/
def locksStackWrong : ChangeSpec := { name := "locksStack", fn := fun _ => fun
  | [d] => { results := [.lit (.bool false)], args := [d] }
  | _ => none }
def LocksStackWrongFalsely : Prop := locksStackRow.holds Tryz.pinned (OpenSpec.ofChange locksStackWrong)

/-- 'loomlaw9.LocksStored': WHATEVER THE INPUT: true; the input reads as it did. -/
def locksStoredSpec : ChangeSpec := { name := "locksStored", fn := fun _ => fun
  | [d1, d2] => { results := [.lit (.bool true)], args := [d1, d2] }
  | _ => none }
def locksStoredRow : OpenClaim := { program := "ytalgjpmaafooeaagreatdoor", sum := "0ec95d215bc466ec036f47859d294199583eac54d41a22e6d75a4b2e6cdcdfe8", func := "loom/loomlaw9.LocksStored", spec := "locksStored", inPlace := ["math.Float64bits"], unfollowed := true, recurses := true, named := ["loom/code.operands", "loom/code.traits"], plainKeys := false, apart := false, laid := [("loom/code.operands", laid_loom_code_operands), ("loom/code.traits", laid_loom_code_traits)] }
def LocksStoredSaid : Prop := locksStoredRow.holds Tryz.pinned (OpenSpec.ofChange locksStoredSpec)

/-- ITS FALSE NEIGHBOUR: 'it returns false'. Refute it at one input. -/
def locksStoredWrong : ChangeSpec := { name := "locksStored", fn := fun _ => fun
  | [d1, d2] => { results := [.lit (.bool false)], args := [d1, d2] }
  | _ => none }
def LocksStoredWrongFalsely : Prop := locksStoredRow.holds Tryz.pinned (OpenSpec.ofChange locksStoredWrong)

/-- 'loomlaw9.LocksWays': WHATEVER THE INPUT: true; the input reads as it did. -/
def locksWaysSpec : ChangeSpec := { name := "locksWays", fn := fun _ => fun
  | [d1, d2, d3, d4] => { results := [.lit (.bool true)], args := [d1, d2, d3, d4] }
  | _ => none }
def locksWaysRow : OpenClaim := { program := "ytalgjpmaafooeaagreatdoor", sum := "0ec95d215bc466ec036f47859d294199583eac54d41a22e6d75a4b2e6cdcdfe8", func := "loom/loomlaw9.LocksWays", spec := "locksWays", inPlace := ["math.Float64bits"], unfollowed := true, recurses := true, named := ["loom/code.operands", "loom/code.traits"], plainKeys := false, apart := false, laid := [("loom/code.operands", laid_loom_code_operands), ("loom/code.traits", laid_loom_code_traits)] }
def LocksWaysSaid : Prop := locksWaysRow.holds Tryz.pinned (OpenSpec.ofChange locksWaysSpec)

/-- ITS FALSE NEIGHBOUR: 'it returns false'. Refute it at one input. -/
def locksWaysWrong : ChangeSpec := { name := "locksWays", fn := fun _ => fun
  | [d1, d2, d3, d4] => { results := [.lit (.bool false)], args := [d1, d2, d3, d4] }
  | _ => none }
def LocksWaysWrongFalsely : Prop := locksWaysRow.holds Tryz.pinned (OpenSpec.ofChange locksWaysWrong)

/-- 'loomlaw10.RootsStack': WHATEVER THE INPUT: true; the input reads as it did. -/
def rootsStackSpec : ChangeSpec := { name := "rootsStack", fn := fun _ => fun
  | [d1, d2] => { results := [.lit (.bool true)], args := [d1, d2] }
  | _ => none }
def rootsStackRow : OpenClaim := { program := "ytalgjpmaafooeaagreatdoor", sum := "0ec95d215bc466ec036f47859d294199583eac54d41a22e6d75a4b2e6cdcdfe8", func := "loom/loomlaw10.RootsStack", spec := "rootsStack", inPlace := ["math.Float64bits"], unfollowed := true, recurses := true, named := ["loom/code.operands", "loom/code.traits"], plainKeys := false, apart := false, laid := [("loom/code.operands", laid_loom_code_operands), ("loom/code.traits", laid_loom_code_traits)] }
def RootsStackSaid : Prop := rootsStackRow.holds Tryz.pinned (OpenSpec.ofChange rootsStackSpec)

/-- ITS FALSE NEIGHBOUR: 'it returns false'. Refute it at one input. -/
def rootsStackWrong : ChangeSpec := { name := "rootsStack", fn := fun _ => fun
  | [d1, d2] => { results := [.lit (.bool false)], args := [d1, d2] }
  | _ => none }
def RootsStackWrongFalsely : Prop := rootsStackRow.holds Tryz.pinned (OpenSpec.ofChange rootsStackWrong)

/- THE SECOND FORM. 'bulk': how many values and letters a reading holds, each counted each time it is reached (what is shared counts as often as it is met; a slice's spare places count too). A statement '..UptoSaid' is the law's where the arguments, and the package variables that the reading takes, are together of bulk at most 1048576: NARROWER than '..Said'. Prove '..Said' where nothing that the law and all that it calls make is longer than what came in: it says more and counts as full. Else prove '..UptoSaid'. A law counts once. -/
mutual
def uptoBulk {H : Type} : DataW H → Nat
  | .lit (.string bytes) => bytes.length + 1
  | .lit _ => 1
  | .nil => 1
  | .ptr d => uptoBulk d + 1
  | .slice elems spare => uptoBulkAll elems + uptoBulkAll spare + 1
  | .agg parts => uptoBulkAll parts + 1
  | .iface _ d => uptoBulk d + 1
  | .map entries => uptoBulkEntries entries + 1
  | .held _ => 1
def uptoBulkAll {H : Type} : List (DataW H) → Nat
  | [] => 0
  | d :: r => uptoBulk d + uptoBulkAll r
def uptoBulkEntries {H : Type} : List (Lit × DataW H) → Nat
  | [] => 0
  | x :: r => uptoBulkEntry x + uptoBulkEntries r
def uptoBulkEntry {H : Type} : Lit × DataW H → Nat
  | (.string bytes, d) => bytes.length + uptoBulk d + 1
  | (_, d) => uptoBulk d + 1
 end
def uptoSmall : (H : Type) → List (DataW H) → Bool := fun _ ds => decide (uptoBulkAll ds ≤ 1048576)
def OpenSpec.upto (s : _root_.Go.ChangeSpec) : _root_.Go.OpenSpec := { _root_.Go.OpenSpec.ofChange s with cond := some uptoSmall }

/-- 'loomlaw9.LocksStack', WHERE WHAT IT READS IS OF BULK AT MOST 1048576: true; the input reads as it did. -/
def locksStackUptoRow : OpenClaim := { program := "ytalgjpmaafooeaagreatdoor", sum := "0ec95d215bc466ec036f47859d294199583eac54d41a22e6d75a4b2e6cdcdfe8", func := "loom/loomlaw9.LocksStack", spec := "locksStack", inPlace := ["math.Float64bits"], unfollowed := true, recurses := true, named := ["loom/code.operands", "loom/code.traits"], plainKeys := false, apart := false, laid := [("loom/code.operands", laid_loom_code_operands), ("loom/code.traits", laid_loom_code_traits)], narrowed := true }
def LocksStackUptoSaid : Prop := locksStackUptoRow.holds Tryz.pinned (OpenSpec.upto locksStackSpec)

/-- 'loomlaw9.LocksStored', WHERE WHAT IT READS IS OF BULK AT MOST 1048576: true; the input reads as it did. -/
def locksStoredUptoRow : OpenClaim := { program := "ytalgjpmaafooeaagreatdoor", sum := "0ec95d215bc466ec036f47859d294199583eac54d41a22e6d75a4b2e6cdcdfe8", func := "loom/loomlaw9.LocksStored", spec := "locksStored", inPlace := ["math.Float64bits"], unfollowed := true, recurses := true, named := ["loom/code.operands", "loom/code.traits"], plainKeys := false, apart := false, laid := [("loom/code.operands", laid_loom_code_operands), ("loom/code.traits", laid_loom_code_traits)], narrowed := true }
def LocksStoredUptoSaid : Prop := locksStoredUptoRow.holds Tryz.pinned (OpenSpec.upto locksStoredSpec)

/-- 'loomlaw9.LocksWays', WHERE WHAT IT READS IS OF BULK AT MOST 1048576: true; the input reads as it did. -/
def locksWaysUptoRow : OpenClaim := { program := "ytalgjpmaafooeaagreatdoor", sum := "0ec95d215bc466ec036f47859d294199583eac54d41a22e6d75a4b2e6cdcdfe8", func := "loom/loomlaw9.LocksWays", spec := "locksWays", inPlace := ["math.Float64bits"], unfollowed := true, recurses := true, named := ["loom/code.operands", "loom/code.traits"], plainKeys := false, apart := false, laid := [("loom/code.operands", laid_loom_code_operands), ("loom/code.traits", laid_loom_code_traits)], narrowed := true }
def LocksWaysUptoSaid : Prop := locksWaysUptoRow.holds Tryz.pinned (OpenSpec.upto locksWaysSpec)

/-- 'loomlaw10.RootsStack', WHERE WHAT IT READS IS OF BULK AT MOST 1048576: true; the input reads as it did. -/
def rootsStackUptoRow : OpenClaim := { program := "ytalgjpmaafooeaagreatdoor", sum := "0ec95d215bc466ec036f47859d294199583eac54d41a22e6d75a4b2e6cdcdfe8", func := "loom/loomlaw10.RootsStack", spec := "rootsStack", inPlace := ["math.Float64bits"], unfollowed := true, recurses := true, named := ["loom/code.operands", "loom/code.traits"], plainKeys := false, apart := false, laid := [("loom/code.operands", laid_loom_code_operands), ("loom/code.traits", laid_loom_code_traits)], narrowed := true }
def RootsStackUptoSaid : Prop := rootsStackUptoRow.holds Tryz.pinned (OpenSpec.upto rootsStackSpec)

end Rows
end Go.Proofs.YtalgjpmaafooeaaGreatDoor
