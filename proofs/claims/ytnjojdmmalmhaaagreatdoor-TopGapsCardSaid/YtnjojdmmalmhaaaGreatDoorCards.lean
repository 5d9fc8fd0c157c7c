/-
  DERIVED. GIVEN WITH THE SEED: THE CARDS: each row of YtnjojdmmalmhaaaGreatDoorRows.lean that lists a variable, with what it lists TIED to the program's text (the seventh form; the later family's looks); each row that meets fmt, with fmt's text TOLD by the authors' own Lean function (tested against real Go, not proved from fmt's source: count such statements apart). THE CARD IS WHAT COUNTS. Prove the row's statement (the work); the ties are given (YtnjojdmmalmhaaaGreatDoorTie.lean); close each card by the builder's one call (the guide's Derived/Test/ToyasCard.lean, 'card_holds'). Laid BY PROGRAM, IN A SANDBOX (cutbox-door.mjs). By AI agents, Wed Nov 11 2026. No macro, syntax, notation, axiom, sorry.
-/
import Derived.Test.YtnjojdmmalmhaaaGreatDoorRows
import GoSem.ClaimSeven
namespace Go.Proofs.YtnjojdmmalmhaaaGreatDoor
namespace Rows

/-- THE TIED CARD OF 'shapesearchtop.TopLossless'. -/
def topLosslessCard : Claim7 := { stood := { row := topLosslessRow, standIns := [], harness := (true, "60be8fb1409295235409709c52a9f4b86daa3b870465fbc2e54aa951450a2bc1"), looks := true }, kinds := [], alts := [], laidByText := true, laidKinds := [.data, .data, .data, .data, .sentinel, .sentinel, .data, .pinned], laidTests := true, laidLooks := .later }
def TopLosslessCardSaid : Prop := Claim7.holds Tryz.pinned (.plain (OpenSpec.ofChange topLosslessSpec)) topLosslessCard

/-- THE TIED CARD OF 'shapesearchtop.TopGaps'. -/
def topGapsCard : Claim7 := { stood := { row := topGapsRow, standIns := [], harness := (true, "60be8fb1409295235409709c52a9f4b86daa3b870465fbc2e54aa951450a2bc1"), looks := true }, kinds := [], alts := [], laidByText := true, laidKinds := [.data, .data, .data, .data, .sentinel, .sentinel, .data, .pinned], laidTests := true, laidLooks := .later }
def TopGapsCardSaid : Prop := Claim7.holds Tryz.pinned (.plain (OpenSpec.ofChange topGapsSpec)) topGapsCard

/-- THE SECOND FORM's CARD OF 'shapesearchtop.TopLossless'. -/
def topLosslessUptoCard : Claim7 := { stood := { row := topLosslessUptoRow, standIns := [], harness := (true, "60be8fb1409295235409709c52a9f4b86daa3b870465fbc2e54aa951450a2bc1"), looks := true }, kinds := [], alts := [], laidByText := true, laidKinds := [.data, .data, .data, .data, .sentinel, .sentinel, .data, .pinned], laidTests := true, laidLooks := .later }
def TopLosslessUptoCardSaid : Prop := Claim7.holds Tryz.pinned (.plain (OpenSpec.upto topLosslessSpec)) topLosslessUptoCard

/-- THE SECOND FORM's CARD OF 'shapesearchtop.TopGaps'. -/
def topGapsUptoCard : Claim7 := { stood := { row := topGapsUptoRow, standIns := [], harness := (true, "60be8fb1409295235409709c52a9f4b86daa3b870465fbc2e54aa951450a2bc1"), looks := true }, kinds := [], alts := [], laidByText := true, laidKinds := [.data, .data, .data, .data, .sentinel, .sentinel, .data, .pinned], laidTests := true, laidLooks := .later }
def TopGapsUptoCardSaid : Prop := Claim7.holds Tryz.pinned (.plain (OpenSpec.upto topGapsSpec)) topGapsUptoCard
end Rows
end Go.Proofs.YtnjojdmmalmhaaaGreatDoor
