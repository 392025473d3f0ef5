/-
  No cell of these rows narrows 'for every input' (looked for: loops, veiled, ifaces, maps, wideKeys, modest, calm, conditions, laid).
  DERIVED. THE GIVEN ROWS OF THIS SEAT. 5 by the template 'for every input the law returns true; each argument reads behind the call as it read before'; 0 by the template 'total and deterministic' (their statements: YtlehddfefinadaaTotals.lean).
  GIVEN WITH THE SEED: the statements are not yours to turn. If you find one false, say at which input.
  Laid BY PROGRAM, IN A SANDBOX (cutbox-rows.mjs): the forced cells as the released guide's own fill.sh prints them over the translation f3a99bd4ee3ecb29… (all of the seat's roots in one cut). By AI agents, Wed Nov 11 2026. No macro, syntax, notation, axiom, sorry.
-/
import Derived.Test.YtlehddfefinadaaChecked
import GoSem.Claim
import GoSem.ClaimJoined
import GoSem.ClaimMapViews
import Derived.JoinedTies
import Derived.KernelRfl
namespace Go.Proofs.Ytlehddfefinadaa
/- THE CELL 'sum', in the pinned program and in every row, IS THE sha256 OF THE DUMP (.gsa) THAT YtlehddfefinadaaProg.lean LOADS. Nothing in Lean hashes anything: it is a label: what it is worth is what the hold of that sum in a sandbox is worth. -/
noncomputable def Try.pinned : Pinned := { name := "ytlehddfefinadaa", sum := "f3a99bd4ee3ecb2974c5ff1f02858f15a08aaff90e75d73131eb59c96c415cd6", checked := Try.checked }
namespace Rows
def none {H : Type} : Left H := { results := [], args := [] }

/-- 'loomlaw2.CplxTells': WHATEVER THE INPUT: true; the input reads as it did. -/
def cplxTellsSpec : ChangeSpec := { name := "cplxTells", fn := fun _ => fun
  | [d1, d2, d3, d4, d5] => { results := [.lit (.bool true)], args := [d1, d2, d3, d4, d5] }
  | _ => none }
def cplxTellsRow : OpenClaim := { program := "ytlehddfefinadaa", sum := "f3a99bd4ee3ecb2974c5ff1f02858f15a08aaff90e75d73131eb59c96c415cd6", func := "loom/loomlaw2.CplxTells", spec := "cplxTells", inPlace := ["internal/bytealg.IndexByteString", "math.Float64frombits", "math.Float64bits"], apart := false }
def CplxTellsSaid : Prop := cplxTellsRow.holds Try.pinned (OpenSpec.ofChange cplxTellsSpec)

/-- ITS FALSE NEIGHBOUR: 'it returns false'. Refute it at one input. -/
def cplxTellsWrong : ChangeSpec := { name := "cplxTells", fn := fun _ => fun
  | [d1, d2, d3, d4, d5] => { results := [.lit (.bool false)], args := [d1, d2, d3, d4, d5] }
  | _ => none }
def CplxTellsWrongFalsely : Prop := cplxTellsRow.holds Try.pinned (OpenSpec.ofChange cplxTellsWrong)

/-- 'loomlaw2.CplxWhole': WHATEVER THE INPUT: true; the input reads as it did. -/
def cplxWholeSpec : ChangeSpec := { name := "cplxWhole", fn := fun _ => fun
  | [d1, d2, d3, d4, d5, d6] => { results := [.lit (.bool true)], args := [d1, d2, d3, d4, d5, d6] }
  | _ => none }
def cplxWholeRow : OpenClaim := { program := "ytlehddfefinadaa", sum := "f3a99bd4ee3ecb2974c5ff1f02858f15a08aaff90e75d73131eb59c96c415cd6", func := "loom/loomlaw2.CplxWhole", spec := "cplxWhole", inPlace := ["internal/bytealg.IndexByteString", "math.Float64frombits", "math.Float64bits"], apart := false }
def CplxWholeSaid : Prop := cplxWholeRow.holds Try.pinned (OpenSpec.ofChange cplxWholeSpec)

/-- ITS FALSE NEIGHBOUR: 'it returns false'. Refute it at one input. -/
def cplxWholeWrong : ChangeSpec := { name := "cplxWhole", fn := fun _ => fun
  | [d1, d2, d3, d4, d5, d6] => { results := [.lit (.bool false)], args := [d1, d2, d3, d4, d5, d6] }
  | _ => none }
def CplxWholeWrongFalsely : Prop := cplxWholeRow.holds Try.pinned (OpenSpec.ofChange cplxWholeWrong)

/-- 'loomlaw2.CplxBack': WHATEVER THE INPUT: true; the input reads as it did. -/
def cplxBackSpec : ChangeSpec := { name := "cplxBack", fn := fun _ => fun
  | [d1, d2] => { results := [.lit (.bool true)], args := [d1, d2] }
  | _ => none }
def cplxBackRow : OpenClaim := { program := "ytlehddfefinadaa", sum := "f3a99bd4ee3ecb2974c5ff1f02858f15a08aaff90e75d73131eb59c96c415cd6", func := "loom/loomlaw2.CplxBack", spec := "cplxBack", inPlace := ["internal/bytealg.IndexByteString", "math.Float64frombits", "math.Float64bits"], apart := false }
def CplxBackSaid : Prop := cplxBackRow.holds Try.pinned (OpenSpec.ofChange cplxBackSpec)

/-- ITS FALSE NEIGHBOUR: 'it returns false'. Refute it at one input. -/
def cplxBackWrong : ChangeSpec := { name := "cplxBack", fn := fun _ => fun
  | [d1, d2] => { results := [.lit (.bool false)], args := [d1, d2] }
  | _ => none }
def CplxBackWrongFalsely : Prop := cplxBackRow.holds Try.pinned (OpenSpec.ofChange cplxBackWrong)

/-- 'loomlaw2.CplxTurns': WHATEVER THE INPUT: true; the input reads as it did. -/
def cplxTurnsSpec : ChangeSpec := { name := "cplxTurns", fn := fun _ => fun
  | [d1, d2] => { results := [.lit (.bool true)], args := [d1, d2] }
  | _ => none }
def cplxTurnsRow : OpenClaim := { program := "ytlehddfefinadaa", sum := "f3a99bd4ee3ecb2974c5ff1f02858f15a08aaff90e75d73131eb59c96c415cd6", func := "loom/loomlaw2.CplxTurns", spec := "cplxTurns", inPlace := ["internal/bytealg.IndexByteString", "math.Float64frombits", "math.Float64bits"], apart := false }
def CplxTurnsSaid : Prop := cplxTurnsRow.holds Try.pinned (OpenSpec.ofChange cplxTurnsSpec)

/-- ITS FALSE NEIGHBOUR: 'it returns false'. Refute it at one input. -/
def cplxTurnsWrong : ChangeSpec := { name := "cplxTurns", fn := fun _ => fun
  | [d1, d2] => { results := [.lit (.bool false)], args := [d1, d2] }
  | _ => none }
def CplxTurnsWrongFalsely : Prop := cplxTurnsRow.holds Try.pinned (OpenSpec.ofChange cplxTurnsWrong)

/-- 'loomlaw2.CplxSpoilt': WHATEVER THE INPUT: true; the input reads as it did. -/
def cplxSpoiltSpec : ChangeSpec := { name := "cplxSpoilt", fn := fun _ => fun
  | [d1, d2, d3, d4] => { results := [.lit (.bool true)], args := [d1, d2, d3, d4] }
  | _ => none }
def cplxSpoiltRow : OpenClaim := { program := "ytlehddfefinadaa", sum := "f3a99bd4ee3ecb2974c5ff1f02858f15a08aaff90e75d73131eb59c96c415cd6", func := "loom/loomlaw2.CplxSpoilt", spec := "cplxSpoilt", inPlace := ["internal/bytealg.IndexByteString", "math.Float64frombits", "math.Float64bits"], apart := false }
def CplxSpoiltSaid : Prop := cplxSpoiltRow.holds Try.pinned (OpenSpec.ofChange cplxSpoiltSpec)

/-- ITS FALSE NEIGHBOUR: 'it returns false'. Refute it at one input. -/
def cplxSpoiltWrong : ChangeSpec := { name := "cplxSpoilt", fn := fun _ => fun
  | [d1, d2, d3, d4] => { results := [.lit (.bool false)], args := [d1, d2, d3, d4] }
  | _ => none }
def CplxSpoiltWrongFalsely : Prop := cplxSpoiltRow.holds Try.pinned (OpenSpec.ofChange cplxSpoiltWrong)

/- THE SECOND FORM. 'bulk': how many values and letters a reading holds, each counted each time it is reached (what is shared counts as often as it is met; a slice's spare places count too). A statement '..UptoSaid' is the law's where the arguments, and the package variables that the reading takes, are together of bulk at most 1048576: NARROWER than '..Said'. Prove '..Said' where nothing that the law and all that it calls make is longer than what came in: it says more and counts as full. Else prove '..UptoSaid'. A law counts once. -/
mutual
def uptoBulk {H : Type} : DataW H → Nat
  | .lit (.string bytes) => bytes.length + 1
  | .lit _ => 1
  | .nil => 1
  | .ptr d => uptoBulk d + 1
  | .slice elems spare => uptoBulkAll elems + uptoBulkAll spare + 1
  | .agg parts => uptoBulkAll parts + 1
  | .iface _ d => uptoBulk d + 1
  | .map entries => uptoBulkEntries entries + 1
  | .held _ => 1
def uptoBulkAll {H : Type} : List (DataW H) → Nat
  | [] => 0
  | d :: r => uptoBulk d + uptoBulkAll r
def uptoBulkEntries {H : Type} : List (Lit × DataW H) → Nat
  | [] => 0
  | x :: r => uptoBulkEntry x + uptoBulkEntries r
def uptoBulkEntry {H : Type} : Lit × DataW H → Nat
  | (.string bytes, d) => bytes.length + uptoBulk d + 1
  | (_, d) => uptoBulk d + 1
 end
def uptoSmall : (H : Type) → List (DataW H) → Bool := fun _ ds => decide (uptoBulkAll ds ≤ 1048576)
def OpenSpec.upto (s : _root_.Go.ChangeSpec) : _root_.Go.OpenSpec := { _root_.Go.OpenSpec.ofChange s with cond := some uptoSmall }

/-- 'loomlaw2.CplxTells', WHERE WHAT IT READS IS OF BULK AT MOST 1048576: true; the input reads as it did. -/
def cplxTellsUptoRow : OpenClaim := { program := "ytlehddfefinadaa", sum := "f3a99bd4ee3ecb2974c5ff1f02858f15a08aaff90e75d73131eb59c96c415cd6", func := "loom/loomlaw2.CplxTells", spec := "cplxTells", inPlace := ["internal/bytealg.IndexByteString", "math.Float64frombits", "math.Float64bits"], apart := false, narrowed := true }
def CplxTellsUptoSaid : Prop := cplxTellsUptoRow.holds Try.pinned (OpenSpec.upto cplxTellsSpec)

/-- 'loomlaw2.CplxWhole', WHERE WHAT IT READS IS OF BULK AT MOST 1048576: true; the input reads as it did. -/
def cplxWholeUptoRow : OpenClaim := { program := "ytlehddfefinadaa", sum := "f3a99bd4ee3ecb2974c5ff1f02858f15a08aaff90e75d73131eb59c96c415cd6", func := "loom/loomlaw2.CplxWhole", spec := "cplxWhole", inPlace := ["internal/bytealg.IndexByteString", "math.Float64frombits", "math.Float64bits"], apart := false, narrowed := true }
def CplxWholeUptoSaid : Prop := cplxWholeUptoRow.holds Try.pinned (OpenSpec.upto cplxWholeSpec)

/-- 'loomlaw2.CplxBack', WHERE WHAT IT READS IS OF BULK AT MOST 1048576: true; the input reads as it did. -/
def cplxBackUptoRow : OpenClaim := { program := "ytlehddfefinadaa", sum := "f3a99bd4ee3ecb2974c5ff1f02858f15a08aaff90e75d73131eb59c96c415cd6", func := "loom/loomlaw2.CplxBack", spec := "cplxBack", inPlace := ["internal/bytealg.IndexByteString", "math.Float64frombits", "math.Float64bits"], apart := false, narrowed := true }
def CplxBackUptoSaid : Prop := cplxBackUptoRow.holds Try.pinned (OpenSpec.upto cplxBackSpec)

/-- 'loomlaw2.CplxTurns', WHERE WHAT IT READS IS OF BULK AT MOST 1048576: true; the input reads as it did. -/
def cplxTurnsUptoRow : OpenClaim := { program := "ytlehddfefinadaa", sum := "f3a99bd4ee3ecb2974c5ff1f02858f15a08aaff90e75d73131eb59c96c415cd6", func := "loom/loomlaw2.CplxTurns", spec := "cplxTurns", inPlace := ["internal/bytealg.IndexByteString", "math.Float64frombits", "math.Float64bits"], apart := false, narrowed := true }
def CplxTurnsUptoSaid : Prop := cplxTurnsUptoRow.holds Try.pinned (OpenSpec.upto cplxTurnsSpec)

/-- 'loomlaw2.CplxSpoilt', WHERE WHAT IT READS IS OF BULK AT MOST 1048576: true; the input reads as it did. -/
def cplxSpoiltUptoRow : OpenClaim := { program := "ytlehddfefinadaa", sum := "f3a99bd4ee3ecb2974c5ff1f02858f15a08aaff90e75d73131eb59c96c415cd6", func := "loom/loomlaw2.CplxSpoilt", spec := "cplxSpoilt", inPlace := ["internal/bytealg.IndexByteString", "math.Float64frombits", "math.Float64bits"], apart := false, narrowed := true }
def CplxSpoiltUptoSaid : Prop := cplxSpoiltUptoRow.holds Try.pinned (OpenSpec.upto cplxSpoiltSpec)

end Rows
end Go.Proofs.Ytlehddfefinadaa
