/-
  DERIVED. GIVEN WITH THE SEED: THE CARDS: each row of YtiomiohdeghpiaaDoorRows.lean that lists a variable, with what it lists TIED to the program's text (the seventh form; the later family's looks); each row that meets fmt, with fmt's text TOLD by the authors' own Lean function (tested against real Go, not proved from fmt's source: count such statements apart). THE CARD IS WHAT COUNTS. Prove the row's statement (the work); the ties are given (YtiomiohdeghpiaaDoorTie.lean); close each card by the builder's one call (the guide's Derived/Test/ToyasCard.lean, 'card_holds'). Laid BY PROGRAM, IN A SANDBOX (cutbox-door.mjs). By AI agents, Wed Nov 11 2026. No macro, syntax, notation, axiom, sorry.
-/
import Derived.Test.YtiomiohdeghpiaaDoorRows
import GoSem.ClaimSeven
namespace Go.Proofs.YtiomiohdeghpiaaDoor
namespace Rows

/-- THE TIED CARD OF 'shapesearchlaw04.UnitAnswers'. -/
def unitAnswersCard : Claim7 := { stood := { row := unitAnswersRow, standIns := [], harness := (true, "1b633bda8bd5cc42814936a045d4cd7344cebfa55c8212daf3cf61697b1a24c7"), looks := false }, kinds := [], alts := [], laidByText := true, laidKinds := [.data, .data, .data, .data], laidTests := true, laidLooks := .later }
def UnitAnswersCardSaid : Prop := Claim7.holds Tryd.pinned (.plain (OpenSpec.ofChange unitAnswersSpec)) unitAnswersCard

/-- THE TIED CARD OF 'shapesearchlaw04.UnitReads'. -/
def unitReadsCard : Claim7 := { stood := { row := unitReadsRow, standIns := [], harness := (true, "1b633bda8bd5cc42814936a045d4cd7344cebfa55c8212daf3cf61697b1a24c7"), looks := false }, kinds := [], alts := [], laidByText := true, laidKinds := [.data, .data, .data, .data], laidTests := true, laidLooks := .later }
def UnitReadsCardSaid : Prop := Claim7.holds Tryd.pinned (.plain (OpenSpec.ofChange unitReadsSpec)) unitReadsCard

/-- THE TIED CARD OF 'shapesearchlaw04.UnitGrows'. -/
def unitGrowsCard : Claim7 := { stood := { row := unitGrowsRow, standIns := [], harness := (true, "1b633bda8bd5cc42814936a045d4cd7344cebfa55c8212daf3cf61697b1a24c7"), looks := false }, kinds := [], alts := [], laidByText := true, laidKinds := [.data], laidTests := true, laidLooks := .later }
def UnitGrowsCardSaid : Prop := Claim7.holds Tryd.pinned (.plain (OpenSpec.ofChange unitGrowsSpec)) unitGrowsCard

/-- THE SECOND FORM's CARD OF 'shapesearchlaw04.UnitAnswers'. -/
def unitAnswersUptoCard : Claim7 := { stood := { row := unitAnswersUptoRow, standIns := [], harness := (true, "1b633bda8bd5cc42814936a045d4cd7344cebfa55c8212daf3cf61697b1a24c7"), looks := false }, kinds := [], alts := [], laidByText := true, laidKinds := [.data, .data, .data, .data], laidTests := true, laidLooks := .later }
def UnitAnswersUptoCardSaid : Prop := Claim7.holds Tryd.pinned (.plain (OpenSpec.upto unitAnswersSpec)) unitAnswersUptoCard

/-- THE SECOND FORM's CARD OF 'shapesearchlaw04.UnitReads'. -/
def unitReadsUptoCard : Claim7 := { stood := { row := unitReadsUptoRow, standIns := [], harness := (true, "1b633bda8bd5cc42814936a045d4cd7344cebfa55c8212daf3cf61697b1a24c7"), looks := false }, kinds := [], alts := [], laidByText := true, laidKinds := [.data, .data, .data, .data], laidTests := true, laidLooks := .later }
def UnitReadsUptoCardSaid : Prop := Claim7.holds Tryd.pinned (.plain (OpenSpec.upto unitReadsSpec)) unitReadsUptoCard

/-- THE SECOND FORM's CARD OF 'shapesearchlaw04.UnitGrows'. -/
def unitGrowsUptoCard : Claim7 := { stood := { row := unitGrowsUptoRow, standIns := [], harness := (true, "1b633bda8bd5cc42814936a045d4cd7344cebfa55c8212daf3cf61697b1a24c7"), looks := false }, kinds := [], alts := [], laidByText := true, laidKinds := [.data], laidTests := true, laidLooks := .later }
def UnitGrowsUptoCardSaid : Prop := Claim7.holds Tryd.pinned (.plain (OpenSpec.upto unitGrowsSpec)) unitGrowsUptoCard
end Rows
end Go.Proofs.YtiomiohdeghpiaaDoor
