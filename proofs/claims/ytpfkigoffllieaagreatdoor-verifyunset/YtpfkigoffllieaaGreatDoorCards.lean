/-
  DERIVED. GIVEN WITH THE SEED: THE CARDS: each row of YtpfkigoffllieaaGreatDoorRows.lean that lists a variable, with what it lists TIED to the program's text (the seventh form; the later family's looks); each row that meets fmt, with fmt's text TOLD by the authors' own Lean function (tested against real Go, not proved from fmt's source: count such statements apart). THE CARD IS WHAT COUNTS. Prove the row's statement (the work); the ties are given (YtpfkigoffllieaaGreatDoorTie.lean); close each card by the builder's one call (the guide's Derived/Test/ToyasCard.lean, 'card_holds'). Laid BY PROGRAM, IN A SANDBOX (cutbox-door.mjs). By AI agents, Wed Nov 11 2026. No macro, syntax, notation, axiom, sorry.
-/
import Derived.Test.YtpfkigoffllieaaGreatDoorRows
import GoSem.ClaimSeven
namespace Go.Proofs.YtpfkigoffllieaaGreatDoor
namespace Rows

/-- THE TIED CARD OF 'loomlaw8.VerifyHeights'. -/
def verifyHeightsCard : Claim7 := { stood := { row := verifyHeightsRow, standIns := [], harness := (true, "beaed20c4d9bbac9a34cd1ffcddadf4775b50de6424167e6ca907eb0d8993fb2"), looks := false }, kinds := [], alts := [], laidByText := true, laidKinds := [.data, .data], laidTests := true, laidLooks := .later }
def VerifyHeightsCardSaid : Prop := Claim7.holds Tryz.pinned (.plain (OpenSpec.ofChange verifyHeightsSpec)) verifyHeightsCard

/-- THE TIED CARD OF 'loomlaw8.VerifyMixes'. -/
def verifyMixesCard : Claim7 := { stood := { row := verifyMixesRow, standIns := [], harness := (true, "beaed20c4d9bbac9a34cd1ffcddadf4775b50de6424167e6ca907eb0d8993fb2"), looks := false }, kinds := [], alts := [], laidByText := true, laidKinds := [.data, .data], laidTests := true, laidLooks := .later }
def VerifyMixesCardSaid : Prop := Claim7.holds Tryz.pinned (.plain (OpenSpec.ofChange verifyMixesSpec)) verifyMixesCard

/-- THE TIED CARD OF 'loomlaw8.VerifyUnset'. -/
def verifyUnsetCard : Claim7 := { stood := { row := verifyUnsetRow, standIns := [], harness := (true, "beaed20c4d9bbac9a34cd1ffcddadf4775b50de6424167e6ca907eb0d8993fb2"), looks := false }, kinds := [], alts := [], laidByText := true, laidKinds := [.data, .data], laidTests := true, laidLooks := .later }
def VerifyUnsetCardSaid : Prop := Claim7.holds Tryz.pinned (.plain (OpenSpec.ofChange verifyUnsetSpec)) verifyUnsetCard

/-- THE TIED CARD OF 'loomlaw8.VerifyLoops'. -/
def verifyLoopsCard : Claim7 := { stood := { row := verifyLoopsRow, standIns := [], harness := (true, "beaed20c4d9bbac9a34cd1ffcddadf4775b50de6424167e6ca907eb0d8993fb2"), looks := false }, kinds := [], alts := [], laidByText := true, laidKinds := [.data, .data], laidTests := true, laidLooks := .later }
def VerifyLoopsCardSaid : Prop := Claim7.holds Tryz.pinned (.plain (OpenSpec.ofChange verifyLoopsSpec)) verifyLoopsCard

/-- THE TIED CARD OF 'loomlaw9.LocksStack'. -/
def locksStackCard : Claim7 := { stood := { row := locksStackRow, standIns := [], harness := (true, "beaed20c4d9bbac9a34cd1ffcddadf4775b50de6424167e6ca907eb0d8993fb2"), looks := false }, kinds := [], alts := [], laidByText := true, laidKinds := [.data, .data], laidTests := true, laidLooks := .later }
def LocksStackCardSaid : Prop := Claim7.holds Tryz.pinned (.plain (OpenSpec.ofChange locksStackSpec)) locksStackCard

/-- THE TIED CARD OF 'loomlaw9.LocksStored'. -/
def locksStoredCard : Claim7 := { stood := { row := locksStoredRow, standIns := [], harness := (true, "beaed20c4d9bbac9a34cd1ffcddadf4775b50de6424167e6ca907eb0d8993fb2"), looks := false }, kinds := [], alts := [], laidByText := true, laidKinds := [.data, .data], laidTests := true, laidLooks := .later }
def LocksStoredCardSaid : Prop := Claim7.holds Tryz.pinned (.plain (OpenSpec.ofChange locksStoredSpec)) locksStoredCard

/-- THE TIED CARD OF 'loomlaw9.LocksWays'. -/
def locksWaysCard : Claim7 := { stood := { row := locksWaysRow, standIns := [], harness := (true, "beaed20c4d9bbac9a34cd1ffcddadf4775b50de6424167e6ca907eb0d8993fb2"), looks := false }, kinds := [], alts := [], laidByText := true, laidKinds := [.data, .data], laidTests := true, laidLooks := .later }
def LocksWaysCardSaid : Prop := Claim7.holds Tryz.pinned (.plain (OpenSpec.ofChange locksWaysSpec)) locksWaysCard

/-- THE SECOND FORM's CARD OF 'loomlaw8.VerifyHeights'. -/
def verifyHeightsUptoCard : Claim7 := { stood := { row := verifyHeightsUptoRow, standIns := [], harness := (true, "beaed20c4d9bbac9a34cd1ffcddadf4775b50de6424167e6ca907eb0d8993fb2"), looks := false }, kinds := [], alts := [], laidByText := true, laidKinds := [.data, .data], laidTests := true, laidLooks := .later }
def VerifyHeightsUptoCardSaid : Prop := Claim7.holds Tryz.pinned (.plain (OpenSpec.upto verifyHeightsSpec)) verifyHeightsUptoCard

/-- THE SECOND FORM's CARD OF 'loomlaw8.VerifyMixes'. -/
def verifyMixesUptoCard : Claim7 := { stood := { row := verifyMixesUptoRow, standIns := [], harness := (true, "beaed20c4d9bbac9a34cd1ffcddadf4775b50de6424167e6ca907eb0d8993fb2"), looks := false }, kinds := [], alts := [], laidByText := true, laidKinds := [.data, .data], laidTests := true, laidLooks := .later }
def VerifyMixesUptoCardSaid : Prop := Claim7.holds Tryz.pinned (.plain (OpenSpec.upto verifyMixesSpec)) verifyMixesUptoCard

/-- THE SECOND FORM's CARD OF 'loomlaw8.VerifyUnset'. -/
def verifyUnsetUptoCard : Claim7 := { stood := { row := verifyUnsetUptoRow, standIns := [], harness := (true, "beaed20c4d9bbac9a34cd1ffcddadf4775b50de6424167e6ca907eb0d8993fb2"), looks := false }, kinds := [], alts := [], laidByText := true, laidKinds := [.data, .data], laidTests := true, laidLooks := .later }
def VerifyUnsetUptoCardSaid : Prop := Claim7.holds Tryz.pinned (.plain (OpenSpec.upto verifyUnsetSpec)) verifyUnsetUptoCard

/-- THE SECOND FORM's CARD OF 'loomlaw8.VerifyLoops'. -/
def verifyLoopsUptoCard : Claim7 := { stood := { row := verifyLoopsUptoRow, standIns := [], harness := (true, "beaed20c4d9bbac9a34cd1ffcddadf4775b50de6424167e6ca907eb0d8993fb2"), looks := false }, kinds := [], alts := [], laidByText := true, laidKinds := [.data, .data], laidTests := true, laidLooks := .later }
def VerifyLoopsUptoCardSaid : Prop := Claim7.holds Tryz.pinned (.plain (OpenSpec.upto verifyLoopsSpec)) verifyLoopsUptoCard

/-- THE SECOND FORM's CARD OF 'loomlaw9.LocksStack'. -/
def locksStackUptoCard : Claim7 := { stood := { row := locksStackUptoRow, standIns := [], harness := (true, "beaed20c4d9bbac9a34cd1ffcddadf4775b50de6424167e6ca907eb0d8993fb2"), looks := false }, kinds := [], alts := [], laidByText := true, laidKinds := [.data, .data], laidTests := true, laidLooks := .later }
def LocksStackUptoCardSaid : Prop := Claim7.holds Tryz.pinned (.plain (OpenSpec.upto locksStackSpec)) locksStackUptoCard

/-- THE SECOND FORM's CARD OF 'loomlaw9.LocksStored'. -/
def locksStoredUptoCard : Claim7 := { stood := { row := locksStoredUptoRow, standIns := [], harness := (true, "beaed20c4d9bbac9a34cd1ffcddadf4775b50de6424167e6ca907eb0d8993fb2"), looks := false }, kinds := [], alts := [], laidByText := true, laidKinds := [.data, .data], laidTests := true, laidLooks := .later }
def LocksStoredUptoCardSaid : Prop := Claim7.holds Tryz.pinned (.plain (OpenSpec.upto locksStoredSpec)) locksStoredUptoCard

/-- THE SECOND FORM's CARD OF 'loomlaw9.LocksWays'. -/
def locksWaysUptoCard : Claim7 := { stood := { row := locksWaysUptoRow, standIns := [], harness := (true, "beaed20c4d9bbac9a34cd1ffcddadf4775b50de6424167e6ca907eb0d8993fb2"), looks := false }, kinds := [], alts := [], laidByText := true, laidKinds := [.data, .data], laidTests := true, laidLooks := .later }
def LocksWaysUptoCardSaid : Prop := Claim7.holds Tryz.pinned (.plain (OpenSpec.upto locksWaysSpec)) locksWaysUptoCard
end Rows
end Go.Proofs.YtpfkigoffllieaaGreatDoor
