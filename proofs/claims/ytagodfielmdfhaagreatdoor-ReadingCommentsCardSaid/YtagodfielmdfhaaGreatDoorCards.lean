/-
  DERIVED. GIVEN WITH THE SEED: THE CARDS: each row of YtagodfielmdfhaaGreatDoorRows.lean that lists a variable, with what it lists TIED to the program's text (the seventh form; the later family's looks); each row that meets fmt, with fmt's text TOLD by the authors' own Lean function (tested against real Go, not proved from fmt's source: count such statements apart). THE CARD IS WHAT COUNTS. Prove the row's statement (the work); the ties are given (YtagodfielmdfhaaGreatDoorTie.lean); close each card by the builder's one call (the guide's Derived/Test/ToyasCard.lean, 'card_holds'). Laid BY PROGRAM, IN A SANDBOX (cutbox-door.mjs). By AI agents, Wed Nov 11 2026. No macro, syntax, notation, axiom, sorry.
-/
import Derived.Test.YtagodfielmdfhaaGreatDoorRows
import GoSem.ClaimSeven
namespace Go.Proofs.YtagodfielmdfhaaGreatDoor
namespace Rows

/-- THE TIED CARD OF 'shapesearchlaw05.ReadingBack'. -/
def readingBackCard : Claim7 := { stood := { row := readingBackRow, standIns := [], harness := (true, "ecab7dfc50cb52a01df084e48d9f02ccfa130385241eeededfdb83243de06351"), looks := true }, kinds := [], alts := [], laidByText := true, laidKinds := [.data, .data, .data, .data, .sentinel, .sentinel, .data, .pinned], laidTests := true, laidLooks := .later }
def ReadingBackCardSaid : Prop := Claim7.holds Tryz.pinned (.plain (OpenSpec.ofChange readingBackSpec)) readingBackCard

/-- THE TIED CARD OF 'shapesearchlaw05.ReadingJoins'. -/
def readingJoinsCard : Claim7 := { stood := { row := readingJoinsRow, standIns := [], harness := (true, "ecab7dfc50cb52a01df084e48d9f02ccfa130385241eeededfdb83243de06351"), looks := true }, kinds := [], alts := [], laidByText := true, laidKinds := [.data, .data, .data, .data, .sentinel, .sentinel, .data, .pinned], laidTests := true, laidLooks := .later }
def ReadingJoinsCardSaid : Prop := Claim7.holds Tryz.pinned (.plain (OpenSpec.ofChange readingJoinsSpec)) readingJoinsCard

/-- THE TIED CARD OF 'shapesearchlaw05.ReadingLines'. -/
def readingLinesCard : Claim7 := { stood := { row := readingLinesRow, standIns := [], harness := (true, "ecab7dfc50cb52a01df084e48d9f02ccfa130385241eeededfdb83243de06351"), looks := true }, kinds := [], alts := [], laidByText := true, laidKinds := [.data, .data, .data, .data, .sentinel, .sentinel, .data, .pinned], laidTests := true, laidLooks := .later }
def ReadingLinesCardSaid : Prop := Claim7.holds Tryz.pinned (.plain (OpenSpec.ofChange readingLinesSpec)) readingLinesCard

/-- THE TIED CARD OF 'shapesearchlaw05.ReadingComments'. -/
def readingCommentsCard : Claim7 := { stood := { row := readingCommentsRow, standIns := [], harness := (true, "ecab7dfc50cb52a01df084e48d9f02ccfa130385241eeededfdb83243de06351"), looks := true }, kinds := [], alts := [], laidByText := true, laidKinds := [.data, .data, .data, .data, .sentinel, .sentinel, .data, .pinned], laidTests := true, laidLooks := .later }
def ReadingCommentsCardSaid : Prop := Claim7.holds Tryz.pinned (.plain (OpenSpec.ofChange readingCommentsSpec)) readingCommentsCard

/-- THE SECOND FORM's CARD OF 'shapesearchlaw05.ReadingBack'. -/
def readingBackUptoCard : Claim7 := { stood := { row := readingBackUptoRow, standIns := [], harness := (true, "ecab7dfc50cb52a01df084e48d9f02ccfa130385241eeededfdb83243de06351"), looks := true }, kinds := [], alts := [], laidByText := true, laidKinds := [.data, .data, .data, .data, .sentinel, .sentinel, .data, .pinned], laidTests := true, laidLooks := .later }
def ReadingBackUptoCardSaid : Prop := Claim7.holds Tryz.pinned (.plain (OpenSpec.upto readingBackSpec)) readingBackUptoCard

/-- THE SECOND FORM's CARD OF 'shapesearchlaw05.ReadingJoins'. -/
def readingJoinsUptoCard : Claim7 := { stood := { row := readingJoinsUptoRow, standIns := [], harness := (true, "ecab7dfc50cb52a01df084e48d9f02ccfa130385241eeededfdb83243de06351"), looks := true }, kinds := [], alts := [], laidByText := true, laidKinds := [.data, .data, .data, .data, .sentinel, .sentinel, .data, .pinned], laidTests := true, laidLooks := .later }
def ReadingJoinsUptoCardSaid : Prop := Claim7.holds Tryz.pinned (.plain (OpenSpec.upto readingJoinsSpec)) readingJoinsUptoCard

/-- THE SECOND FORM's CARD OF 'shapesearchlaw05.ReadingLines'. -/
def readingLinesUptoCard : Claim7 := { stood := { row := readingLinesUptoRow, standIns := [], harness := (true, "ecab7dfc50cb52a01df084e48d9f02ccfa130385241eeededfdb83243de06351"), looks := true }, kinds := [], alts := [], laidByText := true, laidKinds := [.data, .data, .data, .data, .sentinel, .sentinel, .data, .pinned], laidTests := true, laidLooks := .later }
def ReadingLinesUptoCardSaid : Prop := Claim7.holds Tryz.pinned (.plain (OpenSpec.upto readingLinesSpec)) readingLinesUptoCard

/-- THE SECOND FORM's CARD OF 'shapesearchlaw05.ReadingComments'. -/
def readingCommentsUptoCard : Claim7 := { stood := { row := readingCommentsUptoRow, standIns := [], harness := (true, "ecab7dfc50cb52a01df084e48d9f02ccfa130385241eeededfdb83243de06351"), looks := true }, kinds := [], alts := [], laidByText := true, laidKinds := [.data, .data, .data, .data, .sentinel, .sentinel, .data, .pinned], laidTests := true, laidLooks := .later }
def ReadingCommentsUptoCardSaid : Prop := Claim7.holds Tryz.pinned (.plain (OpenSpec.upto readingCommentsSpec)) readingCommentsUptoCard
end Rows
end Go.Proofs.YtagodfielmdfhaaGreatDoor
