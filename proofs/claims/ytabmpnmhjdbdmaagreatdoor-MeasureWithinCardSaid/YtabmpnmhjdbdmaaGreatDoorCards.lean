/-
  DERIVED. GIVEN WITH THE SEED: THE CARDS: each row of YtabmpnmhjdbdmaaGreatDoorRows.lean that lists a variable, with what it lists TIED to the program's text (the seventh form; the later family's looks); each row that meets fmt, with fmt's text TOLD by the authors' own Lean function (tested against real Go, not proved from fmt's source: count such statements apart). THE CARD IS WHAT COUNTS. Prove the row's statement (the work); the ties are given (YtabmpnmhjdbdmaaGreatDoorTie.lean); close each card by the builder's one call (the guide's Derived/Test/ToyasCard.lean, 'card_holds'). Laid BY PROGRAM, IN A SANDBOX (cutbox-door.mjs). By AI agents, Wed Nov 11 2026. No macro, syntax, notation, axiom, sorry.
-/
import Derived.Test.YtabmpnmhjdbdmaaGreatDoorRows
import GoSem.ClaimSeven
namespace Go.Proofs.YtabmpnmhjdbdmaaGreatDoor
namespace Rows

/-- THE TIED CARD OF 'shapesearchlaw17.MeasureWithin'. -/
def measureWithinCard : Claim7 := { stood := { row := measureWithinRow, standIns := [], harness := (true, "9a3e16124f632c5b3a5f922eea954fa6b039f7c14c1310997c561d461029d565"), looks := true }, kinds := [], alts := [], laidByText := true, laidKinds := [.data, .data, .data, .sentinel, .sentinel], laidTests := true, laidLooks := .later }
def MeasureWithinCardSaid : Prop := Claim7.holds Tryz.pinned (.plain (OpenSpec.ofChange measureWithinSpec)) measureWithinCard

/-- THE SECOND FORM's CARD OF 'shapesearchlaw17.MeasureWithin'. -/
def measureWithinUptoCard : Claim7 := { stood := { row := measureWithinUptoRow, standIns := [], harness := (true, "9a3e16124f632c5b3a5f922eea954fa6b039f7c14c1310997c561d461029d565"), looks := true }, kinds := [], alts := [], laidByText := true, laidKinds := [.data, .data, .data, .sentinel, .sentinel], laidTests := true, laidLooks := .later }
def MeasureWithinUptoCardSaid : Prop := Claim7.holds Tryz.pinned (.plain (OpenSpec.upto measureWithinSpec)) measureWithinUptoCard
end Rows
end Go.Proofs.YtabmpnmhjdbdmaaGreatDoor
