/-
  DERIVED. GIVEN WITH THE SEED: THE CARDS: each row of YtagodfielmdfhaaDoorRows.lean that lists a variable, with what it lists TIED to the program's text (the seventh form; the later family's looks); each row that meets fmt, with fmt's text TOLD by the authors' own Lean function (tested against real Go, not proved from fmt's source: count such statements apart). THE CARD IS WHAT COUNTS. Prove the row's statement (the work); the ties are given (YtagodfielmdfhaaDoorTie.lean); close each card by the builder's one call (the guide's Derived/Test/ToyasCard.lean, 'card_holds'). Laid BY PROGRAM, IN A SANDBOX (cutbox-door.mjs). By AI agents, Wed Nov 11 2026. No macro, syntax, notation, axiom, sorry.
-/
import Derived.Test.YtagodfielmdfhaaDoorRows
import GoSem.ClaimSeven
namespace Go.Proofs.YtagodfielmdfhaaDoor
namespace Rows

/-- THE TIED CARD OF 'shapesearchlaw05.ReadingUnits'. -/
def readingUnitsCard : Claim7 := { stood := { row := readingUnitsRow, standIns := [], harness := (true, "c6699e3513fbea9789dbdf445bfee1ae638add600ae3494edf3602eefa79f7aa"), looks := true }, kinds := [], alts := [], laidByText := true, laidKinds := [.data, .data, .data, .data, .sentinel, .sentinel, .data, .pinned], laidTests := true, laidLooks := .later }
def ReadingUnitsCardSaid : Prop := Claim7.holds Tryd.pinned (.plain (OpenSpec.ofChange readingUnitsSpec)) readingUnitsCard

/-- THE SECOND FORM's CARD OF 'shapesearchlaw05.ReadingUnits'. -/
def readingUnitsUptoCard : Claim7 := { stood := { row := readingUnitsUptoRow, standIns := [], harness := (true, "c6699e3513fbea9789dbdf445bfee1ae638add600ae3494edf3602eefa79f7aa"), looks := true }, kinds := [], alts := [], laidByText := true, laidKinds := [.data, .data, .data, .data, .sentinel, .sentinel, .data, .pinned], laidTests := true, laidLooks := .later }
def ReadingUnitsUptoCardSaid : Prop := Claim7.holds Tryd.pinned (.plain (OpenSpec.upto readingUnitsSpec)) readingUnitsUptoCard
end Rows
end Go.Proofs.YtagodfielmdfhaaDoor
