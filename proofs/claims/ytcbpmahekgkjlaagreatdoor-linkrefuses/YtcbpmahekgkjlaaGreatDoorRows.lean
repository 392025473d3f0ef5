/-
  NARROWER THAN 'FOR EVERY INPUT', by the rows' own cells (each row's printed sentence says how): LinkSlots: laid · LinkCalls: laid · LinkRefuses: laid.
  DERIVED. THE GIVEN ROWS OF THIS SEAT. 3 by the template 'for every input the law returns true; each argument reads behind the call as it read before'; 0 by the template 'total and deterministic' (their statements: YtcbpmahekgkjlaaGreatDoorTotals.lean).
  GIVEN WITH THE SEED: the statements are not yours to turn. If you find one false, say at which input.
  Laid BY PROGRAM, IN A SANDBOX (cutbox-rows.mjs): the forced cells as the released guide's own fill.sh prints them over the translation e634453c695931a6… (all of the seat's roots in one cut). By AI agents, Wed Nov 11 2026. No macro, syntax, notation, axiom, sorry.
-/
import Derived.Test.YtcbpmahekgkjlaaGreatDoorChecked
import GoSem.Claim
import GoSem.ClaimJoined
import GoSem.ClaimMapViews
import Derived.JoinedTies
import Derived.KernelRfl
namespace Go.Proofs.YtcbpmahekgkjlaaGreatDoor
/- THE CELL 'sum', in the pinned program and in every row, IS THE sha256 OF THE DUMP (.gsa) THAT YtcbpmahekgkjlaaGreatDoorProg.lean LOADS. Nothing in Lean hashes anything: it is a label: what it is worth is what the hold of that sum in a sandbox is worth. -/
noncomputable def Tryz.pinned : Pinned := { name := "ytcbpmahekgkjlaagreatdoor", sum := "e634453c695931a621bb7204850c28164f0f55de71ed95eb7492e52d52a52ca7", checked := Tryz.checked }
namespace Rows
def none {H : Type} : Left H := { results := [], args := [] }

/- WHAT THE LISTED PACKAGE-LEVEL VARIABLES READ AS WHEN THE CALL BEGINS. Each datum BY PROGRAM (the guide's laid-datum.mjs) off the statement by which the dump's own 'gosem.cut.vars' lays the variable. In a bare row this is a premise. The card (YtcbpmahekgkjlaaGreatDoorCards.lean) ties it to the program's text. -/
def laid_loom_code_operands {H : Type} : DataW H := .agg [.lit (.int .i8 0), .lit (.int .i8 2), .lit (.int .i8 2), .lit (.int .i8 0), .lit (.int .i8 1), .lit (.int .i8 1), .lit (.int .i8 0), .lit (.int .i8 0), .lit (.int .i8 0), .lit (.int .i8 0), .lit (.int .i8 0), .lit (.int .i8 0), .lit (.int .i8 0), .lit (.int .i8 0), .lit (.int .i8 0), .lit (.int .i8 0), .lit (.int .i8 0), .lit (.int .i8 0), .lit (.int .i8 0), .lit (.int .i8 0), .lit (.int .i8 0), .lit (.int .i8 0), .lit (.int .i8 3), .lit (.int .i8 3), .lit (.int .i8 3), .lit (.int .i8 2), .lit (.int .i8 2), .lit (.int .i8 2), .lit (.int .i8 0), .lit (.int .i8 0), .lit (.int .i8 0), .lit (.int .i8 0), .lit (.int .i8 2), .lit (.int .i8 0), .lit (.int .i8 0), .lit (.int .i8 0), .lit (.int .i8 2), .lit (.int .i8 2), .lit (.int .i8 1), .lit (.int .i8 1), .lit (.int .i8 0), .lit (.int .i8 0), .lit (.int .i8 0), .lit (.int .i8 2), .lit (.int .i8 0), .lit (.int .i8 0), .lit (.int .i8 0), .lit (.int .i8 0)]
def laid_loom_code_traits {H : Type} : DataW H := .agg [.lit (.int .u8 0), .lit (.int .u8 0), .lit (.int .u8 0), .lit (.int .u8 0), .lit (.int .u8 0), .lit (.int .u8 0), .lit (.int .u8 0), .lit (.int .u8 0), .lit (.int .u8 0), .lit (.int .u8 0), .lit (.int .u8 0), .lit (.int .u8 4), .lit (.int .u8 4), .lit (.int .u8 0), .lit (.int .u8 0), .lit (.int .u8 0), .lit (.int .u8 0), .lit (.int .u8 0), .lit (.int .u8 0), .lit (.int .u8 0), .lit (.int .u8 0), .lit (.int .u8 0), .lit (.int .u8 3), .lit (.int .u8 2), .lit (.int .u8 2), .lit (.int .u8 4), .lit (.int .u8 4), .lit (.int .u8 4), .lit (.int .u8 4), .lit (.int .u8 4), .lit (.int .u8 4), .lit (.int .u8 4), .lit (.int .u8 4), .lit (.int .u8 1), .lit (.int .u8 1), .lit (.int .u8 5), .lit (.int .u8 4), .lit (.int .u8 0), .lit (.int .u8 4), .lit (.int .u8 0), .lit (.int .u8 4), .lit (.int .u8 4), .lit (.int .u8 4), .lit (.int .u8 4), .lit (.int .u8 4), .lit (.int .u8 0), .lit (.int .u8 0), .lit (.int .u8 0)]

/-- 'loomlaw7.LinkSlots': WHATEVER THE INPUT: true; the input reads as it did. -/
def linkSlotsSpec : ChangeSpec := { name := "linkSlots", fn := fun _ => fun
  | [d] => { results := [.lit (.bool true)], args := [d] }
  | _ => none }
def linkSlotsRow : OpenClaim := { program := "ytcbpmahekgkjlaagreatdoor", sum := "e634453c695931a621bb7204850c28164f0f55de71ed95eb7492e52d52a52ca7", func := "loom/loomlaw7.LinkSlots", spec := "linkSlots", inPlace := ["math.Float64bits"], unfollowed := true, recurses := true, named := ["loom/code.operands", "loom/code.traits"], apart := false, laid := [("loom/code.operands", laid_loom_code_operands), ("loom/code.traits", laid_loom_code_traits)] }
def LinkSlotsSaid : Prop := linkSlotsRow.holds Tryz.pinned (OpenSpec.ofChange linkSlotsSpec)

/-- ITS FALSE NEIGHBOUR: 'it returns false'. Refute it at one input. -/
def linkSlotsWrong : ChangeSpec := { name := "linkSlots", fn := fun _ => fun
  | [d] => { results := [.lit (.bool false)], args := [d] }
  | _ => none }
def LinkSlotsWrongFalsely : Prop := linkSlotsRow.holds Tryz.pinned (OpenSpec.ofChange linkSlotsWrong)

/-- 'loomlaw7.LinkCalls': WHATEVER THE INPUT: true; the input reads as it did. -/
def linkCallsSpec : ChangeSpec := { name := "linkCalls", fn := fun _ => fun
  | [d] => { results := [.lit (.bool true)], args := [d] }
  | _ => none }
def linkCallsRow : OpenClaim := { program := "ytcbpmahekgkjlaagreatdoor", sum := "e634453c695931a621bb7204850c28164f0f55de71ed95eb7492e52d52a52ca7", func := "loom/loomlaw7.LinkCalls", spec := "linkCalls", inPlace := ["math.Float64bits"], unfollowed := true, recurses := true, named := ["loom/code.operands", "loom/code.traits"], apart := false, laid := [("loom/code.operands", laid_loom_code_operands), ("loom/code.traits", laid_loom_code_traits)] }
def LinkCallsSaid : Prop := linkCallsRow.holds Tryz.pinned (OpenSpec.ofChange linkCallsSpec)

/-- ITS FALSE NEIGHBOUR: 'it returns false'. Refute it at one input. -/
def linkCallsWrong : ChangeSpec := { name := "linkCalls", fn := fun _ => fun
  | [d] => { results := [.lit (.bool false)], args := [d] }
  | _ => none }
def LinkCallsWrongFalsely : Prop := linkCallsRow.holds Tryz.pinned (OpenSpec.ofChange linkCallsWrong)

/-- 'loomlaw7.LinkRefuses': WHATEVER THE INPUT: true; the input reads as it did. -/
def linkRefusesSpec : ChangeSpec := { name := "linkRefuses", fn := fun _ => fun
  | [d] => { results := [.lit (.bool true)], args := [d] }
  | _ => none }
def linkRefusesRow : OpenClaim := { program := "ytcbpmahekgkjlaagreatdoor", sum := "e634453c695931a621bb7204850c28164f0f55de71ed95eb7492e52d52a52ca7", func := "loom/loomlaw7.LinkRefuses", spec := "linkRefuses", inPlace := ["math.Float64bits"], unfollowed := true, recurses := true, named := ["loom/code.operands", "loom/code.traits"], apart := false, laid := [("loom/code.operands", laid_loom_code_operands), ("loom/code.traits", laid_loom_code_traits)] }
def LinkRefusesSaid : Prop := linkRefusesRow.holds Tryz.pinned (OpenSpec.ofChange linkRefusesSpec)

/-- ITS FALSE NEIGHBOUR: 'it returns false'. Refute it at one input. -/
def linkRefusesWrong : ChangeSpec := { name := "linkRefuses", fn := fun _ => fun
  | [d] => { results := [.lit (.bool false)], args := [d] }
  | _ => none }
def LinkRefusesWrongFalsely : Prop := linkRefusesRow.holds Tryz.pinned (OpenSpec.ofChange linkRefusesWrong)

/- THE SECOND FORM. 'bulk': how many values and letters a reading holds, each counted each time it is reached (what is shared counts as often as it is met; a slice's spare places count too). A statement '..UptoSaid' is the law's where the arguments, and the package variables that the reading takes, are together of bulk at most 1048576: NARROWER than '..Said'. Prove '..Said' where nothing that the law and all that it calls make is longer than what came in: it says more and counts as full. Else prove '..UptoSaid'. A law counts once. -/
mutual
def uptoBulk {H : Type} : DataW H → Nat
  | .lit (.string bytes) => bytes.length + 1
  | .lit _ => 1
  | .nil => 1
  | .ptr d => uptoBulk d + 1
  | .slice elems spare => uptoBulkAll elems + uptoBulkAll spare + 1
  | .agg parts => uptoBulkAll parts + 1
  | .iface _ d => uptoBulk d + 1
  | .map entries => uptoBulkEntries entries + 1
  | .held _ => 1
def uptoBulkAll {H : Type} : List (DataW H) → Nat
  | [] => 0
  | d :: r => uptoBulk d + uptoBulkAll r
def uptoBulkEntries {H : Type} : List (Lit × DataW H) → Nat
  | [] => 0
  | x :: r => uptoBulkEntry x + uptoBulkEntries r
def uptoBulkEntry {H : Type} : Lit × DataW H → Nat
  | (.string bytes, d) => bytes.length + uptoBulk d + 1
  | (_, d) => uptoBulk d + 1
 end
def uptoSmall : (H : Type) → List (DataW H) → Bool := fun _ ds => decide (uptoBulkAll ds ≤ 1048576)
def OpenSpec.upto (s : _root_.Go.ChangeSpec) : _root_.Go.OpenSpec := { _root_.Go.OpenSpec.ofChange s with cond := some uptoSmall }

/-- 'loomlaw7.LinkSlots', WHERE WHAT IT READS IS OF BULK AT MOST 1048576: true; the input reads as it did. -/
def linkSlotsUptoRow : OpenClaim := { program := "ytcbpmahekgkjlaagreatdoor", sum := "e634453c695931a621bb7204850c28164f0f55de71ed95eb7492e52d52a52ca7", func := "loom/loomlaw7.LinkSlots", spec := "linkSlots", inPlace := ["math.Float64bits"], unfollowed := true, recurses := true, named := ["loom/code.operands", "loom/code.traits"], apart := false, laid := [("loom/code.operands", laid_loom_code_operands), ("loom/code.traits", laid_loom_code_traits)], narrowed := true }
def LinkSlotsUptoSaid : Prop := linkSlotsUptoRow.holds Tryz.pinned (OpenSpec.upto linkSlotsSpec)

/-- 'loomlaw7.LinkCalls', WHERE WHAT IT READS IS OF BULK AT MOST 1048576: true; the input reads as it did. -/
def linkCallsUptoRow : OpenClaim := { program := "ytcbpmahekgkjlaagreatdoor", sum := "e634453c695931a621bb7204850c28164f0f55de71ed95eb7492e52d52a52ca7", func := "loom/loomlaw7.LinkCalls", spec := "linkCalls", inPlace := ["math.Float64bits"], unfollowed := true, recurses := true, named := ["loom/code.operands", "loom/code.traits"], apart := false, laid := [("loom/code.operands", laid_loom_code_operands), ("loom/code.traits", laid_loom_code_traits)], narrowed := true }
def LinkCallsUptoSaid : Prop := linkCallsUptoRow.holds Tryz.pinned (OpenSpec.upto linkCallsSpec)

/-- 'loomlaw7.LinkRefuses', WHERE WHAT IT READS IS OF BULK AT MOST 1048576: true; the input reads as it did. -/
def linkRefusesUptoRow : OpenClaim := { program := "ytcbpmahekgkjlaagreatdoor", sum := "e634453c695931a621bb7204850c28164f0f55de71ed95eb7492e52d52a52ca7", func := "loom/loomlaw7.LinkRefuses", spec := "linkRefuses", inPlace := ["math.Float64bits"], unfollowed := true, recurses := true, named := ["loom/code.operands", "loom/code.traits"], apart := false, laid := [("loom/code.operands", laid_loom_code_operands), ("loom/code.traits", laid_loom_code_traits)], narrowed := true }
def LinkRefusesUptoSaid : Prop := linkRefusesUptoRow.holds Tryz.pinned (OpenSpec.upto linkRefusesSpec)

end Rows
end Go.Proofs.YtcbpmahekgkjlaaGreatDoor
