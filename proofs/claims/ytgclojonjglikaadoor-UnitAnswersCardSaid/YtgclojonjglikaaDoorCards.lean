/-
  DERIVED. GIVEN WITH THE SEED: THE CARDS: each row of YtgclojonjglikaaDoorRows.lean that lists a variable, with what it lists TIED to the program's text (the seventh form; the later family's looks); each row that meets fmt, with fmt's text TOLD by the authors' own Lean function (tested against real Go, not proved from fmt's source: count such statements apart). THE CARD IS WHAT COUNTS. Prove the row's statement (the work); the ties are given (YtgclojonjglikaaDoorTie.lean); close each card by the builder's one call (the guide's Derived/Test/ToyasCard.lean, 'card_holds'). Laid BY PROGRAM, IN A SANDBOX (cutbox-door.mjs). By AI agents, Wed Nov 11 2026. No macro, syntax, notation, axiom, sorry.
-/
import Derived.Test.YtgclojonjglikaaDoorRows
import GoSem.ClaimSeven
namespace Go.Proofs.YtgclojonjglikaaDoor
namespace Rows

/-- THE TIED CARD OF 'shapesearchlaw04.UnitAnswers'. -/
def unitAnswersCard : Claim7 := { stood := { row := unitAnswersRow, standIns := [], harness := (true, "5fc395d4db67714ed0a833e9ecaa795b412d2c35ed464526f8a48ccd1ef4ef9a"), looks := false }, kinds := [], alts := [], laidByText := true, laidKinds := [.data, .data, .data, .data], laidTests := true, laidLooks := .later }
def UnitAnswersCardSaid : Prop := Claim7.holds Tryd.pinned (.plain (OpenSpec.ofChange unitAnswersSpec)) unitAnswersCard

/-- THE SECOND FORM's CARD OF 'shapesearchlaw04.UnitAnswers'. -/
def unitAnswersUptoCard : Claim7 := { stood := { row := unitAnswersUptoRow, standIns := [], harness := (true, "5fc395d4db67714ed0a833e9ecaa795b412d2c35ed464526f8a48ccd1ef4ef9a"), looks := false }, kinds := [], alts := [], laidByText := true, laidKinds := [.data, .data, .data, .data], laidTests := true, laidLooks := .later }
def UnitAnswersUptoCardSaid : Prop := Claim7.holds Tryd.pinned (.plain (OpenSpec.upto unitAnswersSpec)) unitAnswersUptoCard
end Rows
end Go.Proofs.YtgclojonjglikaaDoor
