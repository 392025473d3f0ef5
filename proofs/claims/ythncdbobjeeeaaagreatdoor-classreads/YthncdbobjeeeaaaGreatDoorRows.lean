/-
  NARROWER THAN 'FOR EVERY INPUT', by the rows' own cells (each row's printed sentence says how): ClassReads: laid · ClassConsts: laid · ClassTwice: laid · ClassBounds: laid.
  DERIVED. THE GIVEN ROWS OF THIS SEAT. 4 by the template 'for every input the law returns true; each argument reads behind the call as it read before'; 0 by the template 'total and deterministic' (their statements: YthncdbobjeeeaaaGreatDoorTotals.lean).
  GIVEN WITH THE SEED: the statements are not yours to turn. If you find one false, say at which input.
  Laid BY PROGRAM, IN A SANDBOX (cutbox-rows.mjs): the forced cells as the released guide's own fill.sh prints them over the translation cd7c333dd61051d7… (all of the seat's roots in one cut). By AI agents, Wed Nov 11 2026. No macro, syntax, notation, axiom, sorry.
-/
import Derived.Test.YthncdbobjeeeaaaGreatDoorChecked
import GoSem.Claim
import GoSem.ClaimJoined
import GoSem.ClaimMapViews
import Derived.JoinedTies
import Derived.KernelRfl
namespace Go.Proofs.YthncdbobjeeeaaaGreatDoor
/- THE CELL 'sum', in the pinned program and in every row, IS THE sha256 OF THE DUMP (.gsa) THAT YthncdbobjeeeaaaGreatDoorProg.lean LOADS. Nothing in Lean hashes anything: it is a label: what it is worth is what the hold of that sum in a sandbox is worth. -/
noncomputable def Tryz.pinned : Pinned := { name := "ythncdbobjeeeaaagreatdoor", sum := "cd7c333dd61051d7735122142121c149bc527f989e52f22dba4b216016122a30", checked := Tryz.checked }
namespace Rows
def none {H : Type} : Left H := { results := [], args := [] }

/- WHAT THE LISTED PACKAGE-LEVEL VARIABLES READ AS WHEN THE CALL BEGINS. Each datum BY PROGRAM (the guide's laid-datum.mjs) off the statement by which the dump's own 'gosem.cut.vars' lays the variable. In a bare row this is a premise. The card (YthncdbobjeeeaaaGreatDoorCards.lean) ties it to the program's text. -/
def laid_loom_code_operands {H : Type} : DataW H := .agg [.lit (.int .i8 0), .lit (.int .i8 2), .lit (.int .i8 2), .lit (.int .i8 0), .lit (.int .i8 1), .lit (.int .i8 1), .lit (.int .i8 0), .lit (.int .i8 0), .lit (.int .i8 0), .lit (.int .i8 0), .lit (.int .i8 0), .lit (.int .i8 0), .lit (.int .i8 0), .lit (.int .i8 0), .lit (.int .i8 0), .lit (.int .i8 0), .lit (.int .i8 0), .lit (.int .i8 0), .lit (.int .i8 0), .lit (.int .i8 0), .lit (.int .i8 0), .lit (.int .i8 0), .lit (.int .i8 3), .lit (.int .i8 3), .lit (.int .i8 3), .lit (.int .i8 2), .lit (.int .i8 2), .lit (.int .i8 2), .lit (.int .i8 0), .lit (.int .i8 0), .lit (.int .i8 0), .lit (.int .i8 0), .lit (.int .i8 2), .lit (.int .i8 0), .lit (.int .i8 0), .lit (.int .i8 0), .lit (.int .i8 2), .lit (.int .i8 2), .lit (.int .i8 1), .lit (.int .i8 1), .lit (.int .i8 0), .lit (.int .i8 0), .lit (.int .i8 0), .lit (.int .i8 2), .lit (.int .i8 0), .lit (.int .i8 0), .lit (.int .i8 0), .lit (.int .i8 0)]
def laid_loom_code_traits {H : Type} : DataW H := .agg [.lit (.int .u8 0), .lit (.int .u8 0), .lit (.int .u8 0), .lit (.int .u8 0), .lit (.int .u8 0), .lit (.int .u8 0), .lit (.int .u8 0), .lit (.int .u8 0), .lit (.int .u8 0), .lit (.int .u8 0), .lit (.int .u8 0), .lit (.int .u8 4), .lit (.int .u8 4), .lit (.int .u8 0), .lit (.int .u8 0), .lit (.int .u8 0), .lit (.int .u8 0), .lit (.int .u8 0), .lit (.int .u8 0), .lit (.int .u8 0), .lit (.int .u8 0), .lit (.int .u8 0), .lit (.int .u8 3), .lit (.int .u8 2), .lit (.int .u8 2), .lit (.int .u8 4), .lit (.int .u8 4), .lit (.int .u8 4), .lit (.int .u8 4), .lit (.int .u8 4), .lit (.int .u8 4), .lit (.int .u8 4), .lit (.int .u8 4), .lit (.int .u8 1), .lit (.int .u8 1), .lit (.int .u8 5), .lit (.int .u8 4), .lit (.int .u8 0), .lit (.int .u8 4), .lit (.int .u8 0), .lit (.int .u8 4), .lit (.int .u8 4), .lit (.int .u8 4), .lit (.int .u8 4), .lit (.int .u8 4), .lit (.int .u8 0), .lit (.int .u8 0), .lit (.int .u8 0)]

/-- 'loomlaw5.ClassReads': WHATEVER THE INPUT: true; the input reads as it did. -/
def classReadsSpec : ChangeSpec := { name := "classReads", fn := fun _ => fun
  | [d] => { results := [.lit (.bool true)], args := [d] }
  | _ => none }
def classReadsRow : OpenClaim := { program := "ythncdbobjeeeaaagreatdoor", sum := "cd7c333dd61051d7735122142121c149bc527f989e52f22dba4b216016122a30", func := "loom/loomlaw5.ClassReads", spec := "classReads", inPlace := ["math.Float64bits", "math.Float64frombits"], unfollowed := true, recurses := true, named := ["loom/code.operands", "loom/code.traits"], apart := false, laid := [("loom/code.operands", laid_loom_code_operands), ("loom/code.traits", laid_loom_code_traits)] }
def ClassReadsSaid : Prop := classReadsRow.holds Tryz.pinned (OpenSpec.ofChange classReadsSpec)

/-- ITS FALSE NEIGHBOUR: 'it returns false'. Refute it at one input. -/
def classReadsWrong : ChangeSpec := { name := "classReads", fn := fun _ => fun
  | [d] => { results := [.lit (.bool false)], args := [d] }
  | _ => none }
def ClassReadsWrongFalsely : Prop := classReadsRow.holds Tryz.pinned (OpenSpec.ofChange classReadsWrong)

/-- 'loomlaw5.ClassConsts': WHATEVER THE INPUT: true; the input reads as it did. -/
def classConstsSpec : ChangeSpec := { name := "classConsts", fn := fun _ => fun
  | [d1, d2, d3] => { results := [.lit (.bool true)], args := [d1, d2, d3] }
  | _ => none }
def classConstsRow : OpenClaim := { program := "ythncdbobjeeeaaagreatdoor", sum := "cd7c333dd61051d7735122142121c149bc527f989e52f22dba4b216016122a30", func := "loom/loomlaw5.ClassConsts", spec := "classConsts", inPlace := ["math.Float64bits", "math.Float64frombits"], unfollowed := true, recurses := true, named := ["loom/code.operands", "loom/code.traits"], apart := false, laid := [("loom/code.operands", laid_loom_code_operands), ("loom/code.traits", laid_loom_code_traits)] }
def ClassConstsSaid : Prop := classConstsRow.holds Tryz.pinned (OpenSpec.ofChange classConstsSpec)

/-- ITS FALSE NEIGHBOUR: 'it returns false'. Refute it at one input. -/
def classConstsWrong : ChangeSpec := { name := "classConsts", fn := fun _ => fun
  | [d1, d2, d3] => { results := [.lit (.bool false)], args := [d1, d2, d3] }
  | _ => none }
def ClassConstsWrongFalsely : Prop := classConstsRow.holds Tryz.pinned (OpenSpec.ofChange classConstsWrong)

/-- 'loomlaw5.ClassTwice': WHATEVER THE INPUT: true; the input reads as it did. -/
def classTwiceSpec : ChangeSpec := { name := "classTwice", fn := fun _ => fun
  | [d1, d2] => { results := [.lit (.bool true)], args := [d1, d2] }
  | _ => none }
def classTwiceRow : OpenClaim := { program := "ythncdbobjeeeaaagreatdoor", sum := "cd7c333dd61051d7735122142121c149bc527f989e52f22dba4b216016122a30", func := "loom/loomlaw5.ClassTwice", spec := "classTwice", inPlace := ["math.Float64bits", "math.Float64frombits"], unfollowed := true, recurses := true, named := ["loom/code.operands", "loom/code.traits"], apart := false, laid := [("loom/code.operands", laid_loom_code_operands), ("loom/code.traits", laid_loom_code_traits)] }
def ClassTwiceSaid : Prop := classTwiceRow.holds Tryz.pinned (OpenSpec.ofChange classTwiceSpec)

/-- ITS FALSE NEIGHBOUR: 'it returns false'. Refute it at one input. -/
def classTwiceWrong : ChangeSpec := { name := "classTwice", fn := fun _ => fun
  | [d1, d2] => { results := [.lit (.bool false)], args := [d1, d2] }
  | _ => none }
def ClassTwiceWrongFalsely : Prop := classTwiceRow.holds Tryz.pinned (OpenSpec.ofChange classTwiceWrong)

/-- 'loomlaw5.ClassBounds': WHATEVER THE INPUT: true; the input reads as it did. -/
def classBoundsSpec : ChangeSpec := { name := "classBounds", fn := fun _ => fun
  | [d1, d2] => { results := [.lit (.bool true)], args := [d1, d2] }
  | _ => none }
def classBoundsRow : OpenClaim := { program := "ythncdbobjeeeaaagreatdoor", sum := "cd7c333dd61051d7735122142121c149bc527f989e52f22dba4b216016122a30", func := "loom/loomlaw5.ClassBounds", spec := "classBounds", inPlace := ["math.Float64bits", "math.Float64frombits"], unfollowed := true, recurses := true, named := ["loom/code.operands", "loom/code.traits"], apart := false, laid := [("loom/code.operands", laid_loom_code_operands), ("loom/code.traits", laid_loom_code_traits)] }
def ClassBoundsSaid : Prop := classBoundsRow.holds Tryz.pinned (OpenSpec.ofChange classBoundsSpec)

/-- ITS FALSE NEIGHBOUR: 'it returns false'. Refute it at one input. -/
def classBoundsWrong : ChangeSpec := { name := "classBounds", fn := fun _ => fun
  | [d1, d2] => { results := [.lit (.bool false)], args := [d1, d2] }
  | _ => none }
def ClassBoundsWrongFalsely : Prop := classBoundsRow.holds Tryz.pinned (OpenSpec.ofChange classBoundsWrong)

/- THE SECOND FORM. 'bulk': how many values and letters a reading holds, each counted each time it is reached (what is shared counts as often as it is met; a slice's spare places count too). A statement '..UptoSaid' is the law's where the arguments, and the package variables that the reading takes, are together of bulk at most 1048576: NARROWER than '..Said'. Prove '..Said' where nothing that the law and all that it calls make is longer than what came in: it says more and counts as full. Else prove '..UptoSaid'. A law counts once. -/
mutual
def uptoBulk {H : Type} : DataW H → Nat
  | .lit (.string bytes) => bytes.length + 1
  | .lit _ => 1
  | .nil => 1
  | .ptr d => uptoBulk d + 1
  | .slice elems spare => uptoBulkAll elems + uptoBulkAll spare + 1
  | .agg parts => uptoBulkAll parts + 1
  | .iface _ d => uptoBulk d + 1
  | .map entries => uptoBulkEntries entries + 1
  | .held _ => 1
def uptoBulkAll {H : Type} : List (DataW H) → Nat
  | [] => 0
  | d :: r => uptoBulk d + uptoBulkAll r
def uptoBulkEntries {H : Type} : List (Lit × DataW H) → Nat
  | [] => 0
  | x :: r => uptoBulkEntry x + uptoBulkEntries r
def uptoBulkEntry {H : Type} : Lit × DataW H → Nat
  | (.string bytes, d) => bytes.length + uptoBulk d + 1
  | (_, d) => uptoBulk d + 1
 end
def uptoSmall : (H : Type) → List (DataW H) → Bool := fun _ ds => decide (uptoBulkAll ds ≤ 1048576)
def OpenSpec.upto (s : _root_.Go.ChangeSpec) : _root_.Go.OpenSpec := { _root_.Go.OpenSpec.ofChange s with cond := some uptoSmall }

/-- 'loomlaw5.ClassReads', WHERE WHAT IT READS IS OF BULK AT MOST 1048576: true; the input reads as it did. -/
def classReadsUptoRow : OpenClaim := { program := "ythncdbobjeeeaaagreatdoor", sum := "cd7c333dd61051d7735122142121c149bc527f989e52f22dba4b216016122a30", func := "loom/loomlaw5.ClassReads", spec := "classReads", inPlace := ["math.Float64bits", "math.Float64frombits"], unfollowed := true, recurses := true, named := ["loom/code.operands", "loom/code.traits"], apart := false, laid := [("loom/code.operands", laid_loom_code_operands), ("loom/code.traits", laid_loom_code_traits)], narrowed := true }
def ClassReadsUptoSaid : Prop := classReadsUptoRow.holds Tryz.pinned (OpenSpec.upto classReadsSpec)

/-- 'loomlaw5.ClassConsts', WHERE WHAT IT READS IS OF BULK AT MOST 1048576: true; the input reads as it did. -/
def classConstsUptoRow : OpenClaim := { program := "ythncdbobjeeeaaagreatdoor", sum := "cd7c333dd61051d7735122142121c149bc527f989e52f22dba4b216016122a30", func := "loom/loomlaw5.ClassConsts", spec := "classConsts", inPlace := ["math.Float64bits", "math.Float64frombits"], unfollowed := true, recurses := true, named := ["loom/code.operands", "loom/code.traits"], apart := false, laid := [("loom/code.operands", laid_loom_code_operands), ("loom/code.traits", laid_loom_code_traits)], narrowed := true }
def ClassConstsUptoSaid : Prop := classConstsUptoRow.holds Tryz.pinned (OpenSpec.upto classConstsSpec)

/-- 'loomlaw5.ClassTwice', WHERE WHAT IT READS IS OF BULK AT MOST 1048576: true; the input reads as it did. -/
def classTwiceUptoRow : OpenClaim := { program := "ythncdbobjeeeaaagreatdoor", sum := "cd7c333dd61051d7735122142121c149bc527f989e52f22dba4b216016122a30", func := "loom/loomlaw5.ClassTwice", spec := "classTwice", inPlace := ["math.Float64bits", "math.Float64frombits"], unfollowed := true, recurses := true, named := ["loom/code.operands", "loom/code.traits"], apart := false, laid := [("loom/code.operands", laid_loom_code_operands), ("loom/code.traits", laid_loom_code_traits)], narrowed := true }
def ClassTwiceUptoSaid : Prop := classTwiceUptoRow.holds Tryz.pinned (OpenSpec.upto classTwiceSpec)

/-- 'loomlaw5.ClassBounds', WHERE WHAT IT READS IS OF BULK AT MOST 1048576: true; the input reads as it did. -/
def classBoundsUptoRow : OpenClaim := { program := "ythncdbobjeeeaaagreatdoor", sum := "cd7c333dd61051d7735122142121c149bc527f989e52f22dba4b216016122a30", func := "loom/loomlaw5.ClassBounds", spec := "classBounds", inPlace := ["math.Float64bits", "math.Float64frombits"], unfollowed := true, recurses := true, named := ["loom/code.operands", "loom/code.traits"], apart := false, laid := [("loom/code.operands", laid_loom_code_operands), ("loom/code.traits", laid_loom_code_traits)], narrowed := true }
def ClassBoundsUptoSaid : Prop := classBoundsUptoRow.holds Tryz.pinned (OpenSpec.upto classBoundsSpec)

end Rows
end Go.Proofs.YthncdbobjeeeaaaGreatDoor
