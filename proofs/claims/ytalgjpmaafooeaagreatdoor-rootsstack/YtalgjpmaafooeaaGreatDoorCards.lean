/-
  DERIVED. GIVEN WITH THE SEED: THE CARDS: each row of YtalgjpmaafooeaaGreatDoorRows.lean that lists a variable, with what it lists TIED to the program's text (the seventh form; the later family's looks); each row that meets fmt, with fmt's text TOLD by the authors' own Lean function (tested against real Go, not proved from fmt's source: count such statements apart). THE CARD IS WHAT COUNTS. Prove the row's statement (the work); the ties are given (YtalgjpmaafooeaaGreatDoorTie.lean); close each card by the builder's one call (the guide's Derived/Test/ToyasCard.lean, 'card_holds'). Laid BY PROGRAM, IN A SANDBOX (cutbox-door.mjs). By AI agents, Wed Nov 11 2026. No macro, syntax, notation, axiom, sorry.
-/
import Derived.Test.YtalgjpmaafooeaaGreatDoorRows
import GoSem.ClaimSeven
namespace Go.Proofs.YtalgjpmaafooeaaGreatDoor
namespace Rows

/-- THE TIED CARD OF 'loomlaw9.LocksStack'. -/
def locksStackCard : Claim7 := { stood := { row := locksStackRow, standIns := [], harness := (true, "9ce0e1aeac857255d5178a5385e281d40044f00369fe898f0b732f20a19b6a36"), looks := false }, kinds := [], alts := [], laidByText := true, laidKinds := [.data, .data], laidTests := true, laidLooks := .later }
def LocksStackCardSaid : Prop := Claim7.holds Tryz.pinned (.plain (OpenSpec.ofChange locksStackSpec)) locksStackCard

/-- THE TIED CARD OF 'loomlaw9.LocksStored'. -/
def locksStoredCard : Claim7 := { stood := { row := locksStoredRow, standIns := [], harness := (true, "9ce0e1aeac857255d5178a5385e281d40044f00369fe898f0b732f20a19b6a36"), looks := false }, kinds := [], alts := [], laidByText := true, laidKinds := [.data, .data], laidTests := true, laidLooks := .later }
def LocksStoredCardSaid : Prop := Claim7.holds Tryz.pinned (.plain (OpenSpec.ofChange locksStoredSpec)) locksStoredCard

/-- THE TIED CARD OF 'loomlaw9.LocksWays'. -/
def locksWaysCard : Claim7 := { stood := { row := locksWaysRow, standIns := [], harness := (true, "9ce0e1aeac857255d5178a5385e281d40044f00369fe898f0b732f20a19b6a36"), looks := false }, kinds := [], alts := [], laidByText := true, laidKinds := [.data, .data], laidTests := true, laidLooks := .later }
def LocksWaysCardSaid : Prop := Claim7.holds Tryz.pinned (.plain (OpenSpec.ofChange locksWaysSpec)) locksWaysCard

/-- THE TIED CARD OF 'loomlaw10.RootsStack'. -/
def rootsStackCard : Claim7 := { stood := { row := rootsStackRow, standIns := [], harness := (true, "9ce0e1aeac857255d5178a5385e281d40044f00369fe898f0b732f20a19b6a36"), looks := false }, kinds := [], alts := [], laidByText := true, laidKinds := [.data, .data], laidTests := true, laidLooks := .later }
def RootsStackCardSaid : Prop := Claim7.holds Tryz.pinned (.plain (OpenSpec.ofChange rootsStackSpec)) rootsStackCard

/-- THE SECOND FORM's CARD OF 'loomlaw9.LocksStack'. -/
def locksStackUptoCard : Claim7 := { stood := { row := locksStackUptoRow, standIns := [], harness := (true, "9ce0e1aeac857255d5178a5385e281d40044f00369fe898f0b732f20a19b6a36"), looks := false }, kinds := [], alts := [], laidByText := true, laidKinds := [.data, .data], laidTests := true, laidLooks := .later }
def LocksStackUptoCardSaid : Prop := Claim7.holds Tryz.pinned (.plain (OpenSpec.upto locksStackSpec)) locksStackUptoCard

/-- THE SECOND FORM's CARD OF 'loomlaw9.LocksStored'. -/
def locksStoredUptoCard : Claim7 := { stood := { row := locksStoredUptoRow, standIns := [], harness := (true, "9ce0e1aeac857255d5178a5385e281d40044f00369fe898f0b732f20a19b6a36"), looks := false }, kinds := [], alts := [], laidByText := true, laidKinds := [.data, .data], laidTests := true, laidLooks := .later }
def LocksStoredUptoCardSaid : Prop := Claim7.holds Tryz.pinned (.plain (OpenSpec.upto locksStoredSpec)) locksStoredUptoCard

/-- THE SECOND FORM's CARD OF 'loomlaw9.LocksWays'. -/
def locksWaysUptoCard : Claim7 := { stood := { row := locksWaysUptoRow, standIns := [], harness := (true, "9ce0e1aeac857255d5178a5385e281d40044f00369fe898f0b732f20a19b6a36"), looks := false }, kinds := [], alts := [], laidByText := true, laidKinds := [.data, .data], laidTests := true, laidLooks := .later }
def LocksWaysUptoCardSaid : Prop := Claim7.holds Tryz.pinned (.plain (OpenSpec.upto locksWaysSpec)) locksWaysUptoCard

/-- THE SECOND FORM's CARD OF 'loomlaw10.RootsStack'. -/
def rootsStackUptoCard : Claim7 := { stood := { row := rootsStackUptoRow, standIns := [], harness := (true, "9ce0e1aeac857255d5178a5385e281d40044f00369fe898f0b732f20a19b6a36"), looks := false }, kinds := [], alts := [], laidByText := true, laidKinds := [.data, .data], laidTests := true, laidLooks := .later }
def RootsStackUptoCardSaid : Prop := Claim7.holds Tryz.pinned (.plain (OpenSpec.upto rootsStackSpec)) rootsStackUptoCard
end Rows
end Go.Proofs.YtalgjpmaafooeaaGreatDoor
