/-
  DERIVED. GIVEN WITH THE SEED: THE CARDS: each row of YtcbpmahekgkjlaaGreatDoorRows.lean that lists a variable, with what it lists TIED to the program's text (the seventh form; the later family's looks); each row that meets fmt, with fmt's text TOLD by the authors' own Lean function (tested against real Go, not proved from fmt's source: count such statements apart). THE CARD IS WHAT COUNTS. Prove the row's statement (the work); the ties are given (YtcbpmahekgkjlaaGreatDoorTie.lean); close each card by the builder's one call (the guide's Derived/Test/ToyasCard.lean, 'card_holds'). Laid BY PROGRAM, IN A SANDBOX (cutbox-door.mjs). By AI agents, Wed Nov 11 2026. No macro, syntax, notation, axiom, sorry.
-/
import Derived.Test.YtcbpmahekgkjlaaGreatDoorRows
import GoSem.ClaimSeven
namespace Go.Proofs.YtcbpmahekgkjlaaGreatDoor
namespace Rows

/-- THE TIED CARD OF 'loomlaw7.LinkSlots'. -/
def linkSlotsCard : Claim7 := { stood := { row := linkSlotsRow, standIns := [], harness := (true, "97b5d3390b4a4cee57cecd6556f5eeba4fc21512a0a5d52c2ca057cdc68dca19"), looks := false }, kinds := [], alts := [], laidByText := true, laidKinds := [.data, .data], laidTests := true, laidLooks := .later }
def LinkSlotsCardSaid : Prop := Claim7.holds Tryz.pinned (.plain (OpenSpec.ofChange linkSlotsSpec)) linkSlotsCard

/-- THE TIED CARD OF 'loomlaw7.LinkCalls'. -/
def linkCallsCard : Claim7 := { stood := { row := linkCallsRow, standIns := [], harness := (true, "97b5d3390b4a4cee57cecd6556f5eeba4fc21512a0a5d52c2ca057cdc68dca19"), looks := false }, kinds := [], alts := [], laidByText := true, laidKinds := [.data, .data], laidTests := true, laidLooks := .later }
def LinkCallsCardSaid : Prop := Claim7.holds Tryz.pinned (.plain (OpenSpec.ofChange linkCallsSpec)) linkCallsCard

/-- THE TIED CARD OF 'loomlaw7.LinkRefuses'. -/
def linkRefusesCard : Claim7 := { stood := { row := linkRefusesRow, standIns := [], harness := (true, "97b5d3390b4a4cee57cecd6556f5eeba4fc21512a0a5d52c2ca057cdc68dca19"), looks := false }, kinds := [], alts := [], laidByText := true, laidKinds := [.data, .data], laidTests := true, laidLooks := .later }
def LinkRefusesCardSaid : Prop := Claim7.holds Tryz.pinned (.plain (OpenSpec.ofChange linkRefusesSpec)) linkRefusesCard

/-- THE SECOND FORM's CARD OF 'loomlaw7.LinkSlots'. -/
def linkSlotsUptoCard : Claim7 := { stood := { row := linkSlotsUptoRow, standIns := [], harness := (true, "97b5d3390b4a4cee57cecd6556f5eeba4fc21512a0a5d52c2ca057cdc68dca19"), looks := false }, kinds := [], alts := [], laidByText := true, laidKinds := [.data, .data], laidTests := true, laidLooks := .later }
def LinkSlotsUptoCardSaid : Prop := Claim7.holds Tryz.pinned (.plain (OpenSpec.upto linkSlotsSpec)) linkSlotsUptoCard

/-- THE SECOND FORM's CARD OF 'loomlaw7.LinkCalls'. -/
def linkCallsUptoCard : Claim7 := { stood := { row := linkCallsUptoRow, standIns := [], harness := (true, "97b5d3390b4a4cee57cecd6556f5eeba4fc21512a0a5d52c2ca057cdc68dca19"), looks := false }, kinds := [], alts := [], laidByText := true, laidKinds := [.data, .data], laidTests := true, laidLooks := .later }
def LinkCallsUptoCardSaid : Prop := Claim7.holds Tryz.pinned (.plain (OpenSpec.upto linkCallsSpec)) linkCallsUptoCard

/-- THE SECOND FORM's CARD OF 'loomlaw7.LinkRefuses'. -/
def linkRefusesUptoCard : Claim7 := { stood := { row := linkRefusesUptoRow, standIns := [], harness := (true, "97b5d3390b4a4cee57cecd6556f5eeba4fc21512a0a5d52c2ca057cdc68dca19"), looks := false }, kinds := [], alts := [], laidByText := true, laidKinds := [.data, .data], laidTests := true, laidLooks := .later }
def LinkRefusesUptoCardSaid : Prop := Claim7.holds Tryz.pinned (.plain (OpenSpec.upto linkRefusesSpec)) linkRefusesUptoCard
end Rows
end Go.Proofs.YtcbpmahekgkjlaaGreatDoor
