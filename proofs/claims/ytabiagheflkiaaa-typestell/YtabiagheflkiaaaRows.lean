/-
  No cell of these rows narrows 'for every input' (looked for: loops, veiled, ifaces, maps, wideKeys, modest, calm, conditions, laid).
  DERIVED. THE GIVEN ROWS OF THIS SEAT. 6 by the template 'for every input the law returns true; each argument reads behind the call as it read before'; 0 by the template 'total and deterministic' (their statements: YtabiagheflkiaaaTotals.lean).
  GIVEN WITH THE SEED: the statements are not yours to turn. If you find one false, say at which input.
  Laid BY PROGRAM, IN A SANDBOX (cutbox-rows.mjs): the forced cells as the released guide's own fill.sh prints them over the translation 8846a4e4ba141506… (all of the seat's roots in one cut). By AI agents, Wed Nov 11 2026. No macro, syntax, notation, axiom, sorry.
-/
import Derived.Test.YtabiagheflkiaaaChecked
import GoSem.Claim
import GoSem.ClaimJoined
import GoSem.ClaimMapViews
import Derived.JoinedTies
import Derived.KernelRfl
namespace Go.Proofs.Ytabiagheflkiaaa
/- THE CELL 'sum', in the pinned program and in every row, IS THE sha256 OF THE DUMP (.gsa) THAT YtabiagheflkiaaaProg.lean LOADS. Nothing in Lean hashes anything: it is a label: what it is worth is what the hold of that sum in a sandbox is worth. -/
noncomputable def Try.pinned : Pinned := { name := "ytabiagheflkiaaa", sum := "8846a4e4ba1415069910d1fb90303005f36c8a17e1a70ce3c747066706fd475b", checked := Try.checked }
namespace Rows
def none {H : Type} : Left H := { results := [], args := [] }

/-- 'loomlaw6.TypesTell': WHATEVER THE INPUT: true; the input reads as it did. -/
def typesTellSpec : ChangeSpec := { name := "typesTell", fn := fun _ => fun
  | [d1, d2, d3, d4, d5, d6] => { results := [.lit (.bool true)], args := [d1, d2, d3, d4, d5, d6] }
  | _ => none }
def typesTellRow : OpenClaim := { program := "ytabiagheflkiaaa", sum := "8846a4e4ba1415069910d1fb90303005f36c8a17e1a70ce3c747066706fd475b", func := "loom/loomlaw6.TypesTell", spec := "typesTell", apart := false }
def TypesTellSaid : Prop := typesTellRow.holds Try.pinned (OpenSpec.ofChange typesTellSpec)

/-- ITS FALSE NEIGHBOUR: 'it returns false'. Refute it at one input. -/
def typesTellWrong : ChangeSpec := { name := "typesTell", fn := fun _ => fun
  | [d1, d2, d3, d4, d5, d6] => { results := [.lit (.bool false)], args := [d1, d2, d3, d4, d5, d6] }
  | _ => none }
def TypesTellWrongFalsely : Prop := typesTellRow.holds Try.pinned (OpenSpec.ofChange typesTellWrong)

/-- 'loomlaw6.TypesLeast': WHATEVER THE INPUT: true; the input reads as it did. -/
def typesLeastSpec : ChangeSpec := { name := "typesLeast", fn := fun _ => fun
  | [d1, d2, d3, d4, d5] => { results := [.lit (.bool true)], args := [d1, d2, d3, d4, d5] }
  | _ => none }
def typesLeastRow : OpenClaim := { program := "ytabiagheflkiaaa", sum := "8846a4e4ba1415069910d1fb90303005f36c8a17e1a70ce3c747066706fd475b", func := "loom/loomlaw6.TypesLeast", spec := "typesLeast", apart := false }
def TypesLeastSaid : Prop := typesLeastRow.holds Try.pinned (OpenSpec.ofChange typesLeastSpec)

/-- ITS FALSE NEIGHBOUR: 'it returns false'. Refute it at one input. -/
def typesLeastWrong : ChangeSpec := { name := "typesLeast", fn := fun _ => fun
  | [d1, d2, d3, d4, d5] => { results := [.lit (.bool false)], args := [d1, d2, d3, d4, d5] }
  | _ => none }
def TypesLeastWrongFalsely : Prop := typesLeastRow.holds Try.pinned (OpenSpec.ofChange typesLeastWrong)

/-- 'loomlaw6.TypesChain': WHATEVER THE INPUT: true; the input reads as it did. -/
def typesChainSpec : ChangeSpec := { name := "typesChain", fn := fun _ => fun
  | [d1, d2, d3] => { results := [.lit (.bool true)], args := [d1, d2, d3] }
  | _ => none }
def typesChainRow : OpenClaim := { program := "ytabiagheflkiaaa", sum := "8846a4e4ba1415069910d1fb90303005f36c8a17e1a70ce3c747066706fd475b", func := "loom/loomlaw6.TypesChain", spec := "typesChain", apart := false }
def TypesChainSaid : Prop := typesChainRow.holds Try.pinned (OpenSpec.ofChange typesChainSpec)

/-- ITS FALSE NEIGHBOUR: 'it returns false'. Refute it at one input. -/
def typesChainWrong : ChangeSpec := { name := "typesChain", fn := fun _ => fun
  | [d1, d2, d3] => { results := [.lit (.bool false)], args := [d1, d2, d3] }
  | _ => none }
def TypesChainWrongFalsely : Prop := typesChainRow.holds Try.pinned (OpenSpec.ofChange typesChainWrong)

/-- 'loomlaw6.TypesRound': WHATEVER THE INPUT: true; the input reads as it did. -/
def typesRoundSpec : ChangeSpec := { name := "typesRound", fn := fun _ => fun
  | [d1, d2] => { results := [.lit (.bool true)], args := [d1, d2] }
  | _ => none }
def typesRoundRow : OpenClaim := { program := "ytabiagheflkiaaa", sum := "8846a4e4ba1415069910d1fb90303005f36c8a17e1a70ce3c747066706fd475b", func := "loom/loomlaw6.TypesRound", spec := "typesRound", apart := false }
def TypesRoundSaid : Prop := typesRoundRow.holds Try.pinned (OpenSpec.ofChange typesRoundSpec)

/-- ITS FALSE NEIGHBOUR: 'it returns false'. Refute it at one input. -/
def typesRoundWrong : ChangeSpec := { name := "typesRound", fn := fun _ => fun
  | [d1, d2] => { results := [.lit (.bool false)], args := [d1, d2] }
  | _ => none }
def TypesRoundWrongFalsely : Prop := typesRoundRow.holds Try.pinned (OpenSpec.ofChange typesRoundWrong)

/-- 'loomlaw6.TypesMany': WHATEVER THE INPUT: true; the input reads as it did. -/
def typesManySpec : ChangeSpec := { name := "typesMany", fn := fun _ => fun
  | [d] => { results := [.lit (.bool true)], args := [d] }
  | _ => none }
def typesManyRow : OpenClaim := { program := "ytabiagheflkiaaa", sum := "8846a4e4ba1415069910d1fb90303005f36c8a17e1a70ce3c747066706fd475b", func := "loom/loomlaw6.TypesMany", spec := "typesMany", apart := false }
def TypesManySaid : Prop := typesManyRow.holds Try.pinned (OpenSpec.ofChange typesManySpec)

/-- ITS FALSE NEIGHBOUR: 'it returns false'. Refute it at one input. -/
def typesManyWrong : ChangeSpec := { name := "typesMany", fn := fun _ => fun
  | [d] => { results := [.lit (.bool false)], args := [d] }
  | _ => none }
def TypesManyWrongFalsely : Prop := typesManyRow.holds Try.pinned (OpenSpec.ofChange typesManyWrong)

/-- 'loomlaw6.TypesFit': WHATEVER THE INPUT: true; the input reads as it did. -/
def typesFitSpec : ChangeSpec := { name := "typesFit", fn := fun _ => fun
  | [d1, d2, d3] => { results := [.lit (.bool true)], args := [d1, d2, d3] }
  | _ => none }
def typesFitRow : OpenClaim := { program := "ytabiagheflkiaaa", sum := "8846a4e4ba1415069910d1fb90303005f36c8a17e1a70ce3c747066706fd475b", func := "loom/loomlaw6.TypesFit", spec := "typesFit", apart := false }
def TypesFitSaid : Prop := typesFitRow.holds Try.pinned (OpenSpec.ofChange typesFitSpec)

/-- ITS FALSE NEIGHBOUR: 'it returns false'. Refute it at one input. -/
def typesFitWrong : ChangeSpec := { name := "typesFit", fn := fun _ => fun
  | [d1, d2, d3] => { results := [.lit (.bool false)], args := [d1, d2, d3] }
  | _ => none }
def TypesFitWrongFalsely : Prop := typesFitRow.holds Try.pinned (OpenSpec.ofChange typesFitWrong)

/- THE SECOND FORM. 'bulk': how many values and letters a reading holds, each counted each time it is reached (what is shared counts as often as it is met; a slice's spare places count too). A statement '..UptoSaid' is the law's where the arguments, and the package variables that the reading takes, are together of bulk at most 1048576: NARROWER than '..Said'. Prove '..Said' where nothing that the law and all that it calls make is longer than what came in: it says more and counts as full. Else prove '..UptoSaid'. A law counts once. -/
mutual
def uptoBulk {H : Type} : DataW H → Nat
  | .lit (.string bytes) => bytes.length + 1
  | .lit _ => 1
  | .nil => 1
  | .ptr d => uptoBulk d + 1
  | .slice elems spare => uptoBulkAll elems + uptoBulkAll spare + 1
  | .agg parts => uptoBulkAll parts + 1
  | .iface _ d => uptoBulk d + 1
  | .map entries => uptoBulkEntries entries + 1
  | .held _ => 1
def uptoBulkAll {H : Type} : List (DataW H) → Nat
  | [] => 0
  | d :: r => uptoBulk d + uptoBulkAll r
def uptoBulkEntries {H : Type} : List (Lit × DataW H) → Nat
  | [] => 0
  | x :: r => uptoBulkEntry x + uptoBulkEntries r
def uptoBulkEntry {H : Type} : Lit × DataW H → Nat
  | (.string bytes, d) => bytes.length + uptoBulk d + 1
  | (_, d) => uptoBulk d + 1
 end
def uptoSmall : (H : Type) → List (DataW H) → Bool := fun _ ds => decide (uptoBulkAll ds ≤ 1048576)
def OpenSpec.upto (s : _root_.Go.ChangeSpec) : _root_.Go.OpenSpec := { _root_.Go.OpenSpec.ofChange s with cond := some uptoSmall }

/-- 'loomlaw6.TypesTell', WHERE WHAT IT READS IS OF BULK AT MOST 1048576: true; the input reads as it did. -/
def typesTellUptoRow : OpenClaim := { program := "ytabiagheflkiaaa", sum := "8846a4e4ba1415069910d1fb90303005f36c8a17e1a70ce3c747066706fd475b", func := "loom/loomlaw6.TypesTell", spec := "typesTell", apart := false, narrowed := true }
def TypesTellUptoSaid : Prop := typesTellUptoRow.holds Try.pinned (OpenSpec.upto typesTellSpec)

/-- 'loomlaw6.TypesLeast', WHERE WHAT IT READS IS OF BULK AT MOST 1048576: true; the input reads as it did. -/
def typesLeastUptoRow : OpenClaim := { program := "ytabiagheflkiaaa", sum := "8846a4e4ba1415069910d1fb90303005f36c8a17e1a70ce3c747066706fd475b", func := "loom/loomlaw6.TypesLeast", spec := "typesLeast", apart := false, narrowed := true }
def TypesLeastUptoSaid : Prop := typesLeastUptoRow.holds Try.pinned (OpenSpec.upto typesLeastSpec)

/-- 'loomlaw6.TypesChain', WHERE WHAT IT READS IS OF BULK AT MOST 1048576: true; the input reads as it did. -/
def typesChainUptoRow : OpenClaim := { program := "ytabiagheflkiaaa", sum := "8846a4e4ba1415069910d1fb90303005f36c8a17e1a70ce3c747066706fd475b", func := "loom/loomlaw6.TypesChain", spec := "typesChain", apart := false, narrowed := true }
def TypesChainUptoSaid : Prop := typesChainUptoRow.holds Try.pinned (OpenSpec.upto typesChainSpec)

/-- 'loomlaw6.TypesRound', WHERE WHAT IT READS IS OF BULK AT MOST 1048576: true; the input reads as it did. -/
def typesRoundUptoRow : OpenClaim := { program := "ytabiagheflkiaaa", sum := "8846a4e4ba1415069910d1fb90303005f36c8a17e1a70ce3c747066706fd475b", func := "loom/loomlaw6.TypesRound", spec := "typesRound", apart := false, narrowed := true }
def TypesRoundUptoSaid : Prop := typesRoundUptoRow.holds Try.pinned (OpenSpec.upto typesRoundSpec)

/-- 'loomlaw6.TypesMany', WHERE WHAT IT READS IS OF BULK AT MOST 1048576: true; the input reads as it did. -/
def typesManyUptoRow : OpenClaim := { program := "ytabiagheflkiaaa", sum := "8846a4e4ba1415069910d1fb90303005f36c8a17e1a70ce3c747066706fd475b", func := "loom/loomlaw6.TypesMany", spec := "typesMany", apart := false, narrowed := true }
def TypesManyUptoSaid : Prop := typesManyUptoRow.holds Try.pinned (OpenSpec.upto typesManySpec)

/-- 'loomlaw6.TypesFit', WHERE WHAT IT READS IS OF BULK AT MOST 1048576: true; the input reads as it did. -/
def typesFitUptoRow : OpenClaim := { program := "ytabiagheflkiaaa", sum := "8846a4e4ba1415069910d1fb90303005f36c8a17e1a70ce3c747066706fd475b", func := "loom/loomlaw6.TypesFit", spec := "typesFit", apart := false, narrowed := true }
def TypesFitUptoSaid : Prop := typesFitUptoRow.holds Try.pinned (OpenSpec.upto typesFitSpec)

end Rows
end Go.Proofs.Ytabiagheflkiaaa
