/-
  DERIVED. GIVEN WITH THE SEED: THE CARDS: each row of YtpbnabibnkohdaaGreatDoorRows.lean that lists a variable, with what it lists TIED to the program's text (the seventh form; the later family's looks); each row that meets fmt, with fmt's text TOLD by the authors' own Lean function (tested against real Go, not proved from fmt's source: count such statements apart). THE CARD IS WHAT COUNTS. Prove the row's statement (the work); the ties are given (YtpbnabibnkohdaaGreatDoorTie.lean); close each card by the builder's one call (the guide's Derived/Test/ToyasCard.lean, 'card_holds'). Laid BY PROGRAM, IN A SANDBOX (cutbox-door.mjs). By AI agents, Wed Nov 11 2026. No macro, syntax, notation, axiom, sorry.
-/
import Derived.Test.YtpbnabibnkohdaaGreatDoorRows
import GoSem.ClaimSeven
namespace Go.Proofs.YtpbnabibnkohdaaGreatDoor
namespace Rows

/-- THE TIED CARD OF 'shapesearchtop.TopChannels'. -/
def topChannelsCard : Claim7 := { stood := { row := topChannelsRow, standIns := [], harness := (true, "b141cbc9322f80865e9265fb1d9648d696aa6cb162d7e691e33f3edc7f9f5847"), looks := true }, kinds := [], alts := [], laidByText := true, laidKinds := [.data, .data, .data, .data, .sentinel, .sentinel, .data, .pinned], laidTests := true, laidLooks := .later }
def TopChannelsCardSaid : Prop := Claim7.holds Tryz.pinned (.plain (OpenSpec.ofChange topChannelsSpec)) topChannelsCard

/-- THE TIED CARD OF 'shapesearchtop.TopMoves'. -/
def topMovesCard : Claim7 := { stood := { row := topMovesRow, standIns := [], harness := (true, "b141cbc9322f80865e9265fb1d9648d696aa6cb162d7e691e33f3edc7f9f5847"), looks := true }, kinds := [], alts := [], laidByText := true, laidKinds := [.data, .data, .data, .data, .sentinel, .sentinel, .data, .pinned], laidTests := true, laidLooks := .later }
def TopMovesCardSaid : Prop := Claim7.holds Tryz.pinned (.plain (OpenSpec.ofChange topMovesSpec)) topMovesCard

/-- THE TIED CARD OF 'shapesearchtop.TopTriangles'. -/
def topTrianglesCard : Claim7 := { stood := { row := topTrianglesRow, standIns := [], harness := (true, "b141cbc9322f80865e9265fb1d9648d696aa6cb162d7e691e33f3edc7f9f5847"), looks := true }, kinds := [], alts := [], laidByText := true, laidKinds := [.data, .data, .data, .data, .sentinel, .sentinel, .data, .pinned], laidTests := true, laidLooks := .later }
def TopTrianglesCardSaid : Prop := Claim7.holds Tryz.pinned (.plain (OpenSpec.ofChange topTrianglesSpec)) topTrianglesCard

/-- THE SECOND FORM's CARD OF 'shapesearchtop.TopChannels'. -/
def topChannelsUptoCard : Claim7 := { stood := { row := topChannelsUptoRow, standIns := [], harness := (true, "b141cbc9322f80865e9265fb1d9648d696aa6cb162d7e691e33f3edc7f9f5847"), looks := true }, kinds := [], alts := [], laidByText := true, laidKinds := [.data, .data, .data, .data, .sentinel, .sentinel, .data, .pinned], laidTests := true, laidLooks := .later }
def TopChannelsUptoCardSaid : Prop := Claim7.holds Tryz.pinned (.plain (OpenSpec.upto topChannelsSpec)) topChannelsUptoCard

/-- THE SECOND FORM's CARD OF 'shapesearchtop.TopMoves'. -/
def topMovesUptoCard : Claim7 := { stood := { row := topMovesUptoRow, standIns := [], harness := (true, "b141cbc9322f80865e9265fb1d9648d696aa6cb162d7e691e33f3edc7f9f5847"), looks := true }, kinds := [], alts := [], laidByText := true, laidKinds := [.data, .data, .data, .data, .sentinel, .sentinel, .data, .pinned], laidTests := true, laidLooks := .later }
def TopMovesUptoCardSaid : Prop := Claim7.holds Tryz.pinned (.plain (OpenSpec.upto topMovesSpec)) topMovesUptoCard

/-- THE SECOND FORM's CARD OF 'shapesearchtop.TopTriangles'. -/
def topTrianglesUptoCard : Claim7 := { stood := { row := topTrianglesUptoRow, standIns := [], harness := (true, "b141cbc9322f80865e9265fb1d9648d696aa6cb162d7e691e33f3edc7f9f5847"), looks := true }, kinds := [], alts := [], laidByText := true, laidKinds := [.data, .data, .data, .data, .sentinel, .sentinel, .data, .pinned], laidTests := true, laidLooks := .later }
def TopTrianglesUptoCardSaid : Prop := Claim7.holds Tryz.pinned (.plain (OpenSpec.upto topTrianglesSpec)) topTrianglesUptoCard
end Rows
end Go.Proofs.YtpbnabibnkohdaaGreatDoor
