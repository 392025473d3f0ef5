/-
  DERIVED. GIVEN WITH THE SEED: THE CARDS: each row of YthncdbobjeeeaaaGreatDoorRows.lean that lists a variable, with what it lists TIED to the program's text (the seventh form; the later family's looks); each row that meets fmt, with fmt's text TOLD by the authors' own Lean function (tested against real Go, not proved from fmt's source: count such statements apart). THE CARD IS WHAT COUNTS. Prove the row's statement (the work); the ties are given (YthncdbobjeeeaaaGreatDoorTie.lean); close each card by the builder's one call (the guide's Derived/Test/ToyasCard.lean, 'card_holds'). Laid BY PROGRAM, IN A SANDBOX (cutbox-door.mjs). By AI agents, Wed Nov 11 2026. No macro, syntax, notation, axiom, sorry.
-/
import Derived.Test.YthncdbobjeeeaaaGreatDoorRows
import GoSem.ClaimSeven
namespace Go.Proofs.YthncdbobjeeeaaaGreatDoor
namespace Rows

/-- THE TIED CARD OF 'loomlaw5.ClassReads'. -/
def classReadsCard : Claim7 := { stood := { row := classReadsRow, standIns := [], harness := (true, "d81f6a96063b25ece5e74ae9d89e85e76cd7d77ceb9dfb677852684bef75ee9e"), looks := false }, kinds := [], alts := [], laidByText := true, laidKinds := [.data, .data], laidTests := true, laidLooks := .later }
def ClassReadsCardSaid : Prop := Claim7.holds Tryz.pinned (.plain (OpenSpec.ofChange classReadsSpec)) classReadsCard

/-- THE TIED CARD OF 'loomlaw5.ClassConsts'. -/
def classConstsCard : Claim7 := { stood := { row := classConstsRow, standIns := [], harness := (true, "d81f6a96063b25ece5e74ae9d89e85e76cd7d77ceb9dfb677852684bef75ee9e"), looks := false }, kinds := [], alts := [], laidByText := true, laidKinds := [.data, .data], laidTests := true, laidLooks := .later }
def ClassConstsCardSaid : Prop := Claim7.holds Tryz.pinned (.plain (OpenSpec.ofChange classConstsSpec)) classConstsCard

/-- THE TIED CARD OF 'loomlaw5.ClassTwice'. -/
def classTwiceCard : Claim7 := { stood := { row := classTwiceRow, standIns := [], harness := (true, "d81f6a96063b25ece5e74ae9d89e85e76cd7d77ceb9dfb677852684bef75ee9e"), looks := false }, kinds := [], alts := [], laidByText := true, laidKinds := [.data, .data], laidTests := true, laidLooks := .later }
def ClassTwiceCardSaid : Prop := Claim7.holds Tryz.pinned (.plain (OpenSpec.ofChange classTwiceSpec)) classTwiceCard

/-- THE TIED CARD OF 'loomlaw5.ClassBounds'. -/
def classBoundsCard : Claim7 := { stood := { row := classBoundsRow, standIns := [], harness := (true, "d81f6a96063b25ece5e74ae9d89e85e76cd7d77ceb9dfb677852684bef75ee9e"), looks := false }, kinds := [], alts := [], laidByText := true, laidKinds := [.data, .data], laidTests := true, laidLooks := .later }
def ClassBoundsCardSaid : Prop := Claim7.holds Tryz.pinned (.plain (OpenSpec.ofChange classBoundsSpec)) classBoundsCard

/-- THE SECOND FORM's CARD OF 'loomlaw5.ClassReads'. -/
def classReadsUptoCard : Claim7 := { stood := { row := classReadsUptoRow, standIns := [], harness := (true, "d81f6a96063b25ece5e74ae9d89e85e76cd7d77ceb9dfb677852684bef75ee9e"), looks := false }, kinds := [], alts := [], laidByText := true, laidKinds := [.data, .data], laidTests := true, laidLooks := .later }
def ClassReadsUptoCardSaid : Prop := Claim7.holds Tryz.pinned (.plain (OpenSpec.upto classReadsSpec)) classReadsUptoCard

/-- THE SECOND FORM's CARD OF 'loomlaw5.ClassConsts'. -/
def classConstsUptoCard : Claim7 := { stood := { row := classConstsUptoRow, standIns := [], harness := (true, "d81f6a96063b25ece5e74ae9d89e85e76cd7d77ceb9dfb677852684bef75ee9e"), looks := false }, kinds := [], alts := [], laidByText := true, laidKinds := [.data, .data], laidTests := true, laidLooks := .later }
def ClassConstsUptoCardSaid : Prop := Claim7.holds Tryz.pinned (.plain (OpenSpec.upto classConstsSpec)) classConstsUptoCard

/-- THE SECOND FORM's CARD OF 'loomlaw5.ClassTwice'. -/
def classTwiceUptoCard : Claim7 := { stood := { row := classTwiceUptoRow, standIns := [], harness := (true, "d81f6a96063b25ece5e74ae9d89e85e76cd7d77ceb9dfb677852684bef75ee9e"), looks := false }, kinds := [], alts := [], laidByText := true, laidKinds := [.data, .data], laidTests := true, laidLooks := .later }
def ClassTwiceUptoCardSaid : Prop := Claim7.holds Tryz.pinned (.plain (OpenSpec.upto classTwiceSpec)) classTwiceUptoCard

/-- THE SECOND FORM's CARD OF 'loomlaw5.ClassBounds'. -/
def classBoundsUptoCard : Claim7 := { stood := { row := classBoundsUptoRow, standIns := [], harness := (true, "d81f6a96063b25ece5e74ae9d89e85e76cd7d77ceb9dfb677852684bef75ee9e"), looks := false }, kinds := [], alts := [], laidByText := true, laidKinds := [.data, .data], laidTests := true, laidLooks := .later }
def ClassBoundsUptoCardSaid : Prop := Claim7.holds Tryz.pinned (.plain (OpenSpec.upto classBoundsSpec)) classBoundsUptoCard
end Rows
end Go.Proofs.YthncdbobjeeeaaaGreatDoor
