/-
  No cell of these rows narrows 'for every input' (looked for: loops, veiled, ifaces, maps, wideKeys, modest, calm, conditions, laid).
  DERIVED. THE GIVEN ROWS OF THIS SEAT. 11 by the template 'for every input the law returns true; each argument reads behind the call as it read before'; 0 by the template 'total and deterministic' (their statements: YtkjffielnmdpcaaTotals.lean).
  GIVEN WITH THE SEED: the statements are not yours to turn. If you find one false, say at which input.
  Laid BY PROGRAM, IN A SANDBOX (cutbox-rows.mjs): the forced cells as the released guide's own fill.sh prints them over the translation 1d33b6b33fea4b3e… (all of the seat's roots in one cut). By AI agents, Wed Nov 11 2026. No macro, syntax, notation, axiom, sorry.
-/
import Derived.Test.YtkjffielnmdpcaaChecked
import GoSem.Claim
import GoSem.ClaimJoined
import GoSem.ClaimMapViews
import Derived.JoinedTies
import Derived.KernelRfl
namespace Go.Proofs.Ytkjffielnmdpcaa
/- THE CELL 'sum', in the pinned program and in every row, IS THE sha256 OF THE DUMP (.gsa) THAT YtkjffielnmdpcaaProg.lean LOADS. Nothing in Lean hashes anything: it is a label: what it is worth is what the hold of that sum in a sandbox is worth. -/
noncomputable def Try.pinned : Pinned := { name := "ytkjffielnmdpcaa", sum := "1d33b6b33fea4b3ec6f9ef0ccdc57533d7595839030cdef313d7f119d9149dde", checked := Try.checked }
namespace Rows
def none {H : Type} : Left H := { results := [], args := [] }

/-- 'shapesearchlaw14.WarpLeast': WHATEVER THE INPUT: true; the input reads as it did. -/
def warpLeastSpec : ChangeSpec := { name := "warpLeast", fn := fun _ => fun
  | [d1, d2] => { results := [.lit (.bool true)], args := [d1, d2] }
  | _ => none }
def warpLeastRow : OpenClaim := { program := "ytkjffielnmdpcaa", sum := "1d33b6b33fea4b3ec6f9ef0ccdc57533d7595839030cdef313d7f119d9149dde", func := "shapesearch/shapesearchlaw14.WarpLeast", spec := "warpLeast", unfollowed := true, recurses := true, apart := false }
def WarpLeastSaid : Prop := warpLeastRow.holds Try.pinned (OpenSpec.ofChange warpLeastSpec)

/-- ITS FALSE NEIGHBOUR: 'it returns false'. Refute it at one input. -/
def warpLeastWrong : ChangeSpec := { name := "warpLeast", fn := fun _ => fun
  | [d1, d2] => { results := [.lit (.bool false)], args := [d1, d2] }
  | _ => none }
def WarpLeastWrongFalsely : Prop := warpLeastRow.holds Try.pinned (OpenSpec.ofChange warpLeastWrong)

/-- 'shapesearchlaw14.WarpAll': WHATEVER THE INPUT: true; the input reads as it did. -/
def warpAllSpec : ChangeSpec := { name := "warpAll", fn := fun _ => fun
  | [d] => { results := [.lit (.bool true)], args := [d] }
  | _ => none }
def warpAllRow : OpenClaim := { program := "ytkjffielnmdpcaa", sum := "1d33b6b33fea4b3ec6f9ef0ccdc57533d7595839030cdef313d7f119d9149dde", func := "shapesearch/shapesearchlaw14.WarpAll", spec := "warpAll", unfollowed := true, recurses := true, apart := false }
def WarpAllSaid : Prop := warpAllRow.holds Try.pinned (OpenSpec.ofChange warpAllSpec)

/-- ITS FALSE NEIGHBOUR: 'it returns false'. Refute it at one input. -/
def warpAllWrong : ChangeSpec := { name := "warpAll", fn := fun _ => fun
  | [d] => { results := [.lit (.bool false)], args := [d] }
  | _ => none }
def WarpAllWrongFalsely : Prop := warpAllRow.holds Try.pinned (OpenSpec.ofChange warpAllWrong)

/-- 'shapesearchlaw14.WarpBands': WHATEVER THE INPUT: true; the input reads as it did. -/
def warpBandsSpec : ChangeSpec := { name := "warpBands", fn := fun _ => fun
  | [d1, d2] => { results := [.lit (.bool true)], args := [d1, d2] }
  | _ => none }
def warpBandsRow : OpenClaim := { program := "ytkjffielnmdpcaa", sum := "1d33b6b33fea4b3ec6f9ef0ccdc57533d7595839030cdef313d7f119d9149dde", func := "shapesearch/shapesearchlaw14.WarpBands", spec := "warpBands", unfollowed := true, recurses := true, apart := false }
def WarpBandsSaid : Prop := warpBandsRow.holds Try.pinned (OpenSpec.ofChange warpBandsSpec)

/-- ITS FALSE NEIGHBOUR: 'it returns false'. Refute it at one input. -/
def warpBandsWrong : ChangeSpec := { name := "warpBands", fn := fun _ => fun
  | [d1, d2] => { results := [.lit (.bool false)], args := [d1, d2] }
  | _ => none }
def WarpBandsWrongFalsely : Prop := warpBandsRow.holds Try.pinned (OpenSpec.ofChange warpBandsWrong)

/-- 'shapesearchlaw14.WarpMoves': WHATEVER THE INPUT: true; the input reads as it did. -/
def warpMovesSpec : ChangeSpec := { name := "warpMoves", fn := fun _ => fun
  | [d1, d2] => { results := [.lit (.bool true)], args := [d1, d2] }
  | _ => none }
def warpMovesRow : OpenClaim := { program := "ytkjffielnmdpcaa", sum := "1d33b6b33fea4b3ec6f9ef0ccdc57533d7595839030cdef313d7f119d9149dde", func := "shapesearch/shapesearchlaw14.WarpMoves", spec := "warpMoves", unfollowed := true, recurses := true, apart := false }
def WarpMovesSaid : Prop := warpMovesRow.holds Try.pinned (OpenSpec.ofChange warpMovesSpec)

/-- ITS FALSE NEIGHBOUR: 'it returns false'. Refute it at one input. -/
def warpMovesWrong : ChangeSpec := { name := "warpMoves", fn := fun _ => fun
  | [d1, d2] => { results := [.lit (.bool false)], args := [d1, d2] }
  | _ => none }
def WarpMovesWrongFalsely : Prop := warpMovesRow.holds Try.pinned (OpenSpec.ofChange warpMovesWrong)

/-- 'shapesearchlaw14.WarpRepeats': WHATEVER THE INPUT: true; the input reads as it did. -/
def warpRepeatsSpec : ChangeSpec := { name := "warpRepeats", fn := fun _ => fun
  | [d] => { results := [.lit (.bool true)], args := [d] }
  | _ => none }
def warpRepeatsRow : OpenClaim := { program := "ytkjffielnmdpcaa", sum := "1d33b6b33fea4b3ec6f9ef0ccdc57533d7595839030cdef313d7f119d9149dde", func := "shapesearch/shapesearchlaw14.WarpRepeats", spec := "warpRepeats", unfollowed := true, recurses := true, apart := false }
def WarpRepeatsSaid : Prop := warpRepeatsRow.holds Try.pinned (OpenSpec.ofChange warpRepeatsSpec)

/-- ITS FALSE NEIGHBOUR: 'it returns false'. Refute it at one input. -/
def warpRepeatsWrong : ChangeSpec := { name := "warpRepeats", fn := fun _ => fun
  | [d] => { results := [.lit (.bool false)], args := [d] }
  | _ => none }
def WarpRepeatsWrongFalsely : Prop := warpRepeatsRow.holds Try.pinned (OpenSpec.ofChange warpRepeatsWrong)

/-- 'shapesearchlaw14.WarpEnds': WHATEVER THE INPUT: true; the input reads as it did. -/
def warpEndsSpec : ChangeSpec := { name := "warpEnds", fn := fun _ => fun
  | [d1, d2] => { results := [.lit (.bool true)], args := [d1, d2] }
  | _ => none }
def warpEndsRow : OpenClaim := { program := "ytkjffielnmdpcaa", sum := "1d33b6b33fea4b3ec6f9ef0ccdc57533d7595839030cdef313d7f119d9149dde", func := "shapesearch/shapesearchlaw14.WarpEnds", spec := "warpEnds", unfollowed := true, recurses := true, apart := false }
def WarpEndsSaid : Prop := warpEndsRow.holds Try.pinned (OpenSpec.ofChange warpEndsSpec)

/-- ITS FALSE NEIGHBOUR: 'it returns false'. Refute it at one input. -/
def warpEndsWrong : ChangeSpec := { name := "warpEnds", fn := fun _ => fun
  | [d1, d2] => { results := [.lit (.bool false)], args := [d1, d2] }
  | _ => none }
def WarpEndsWrongFalsely : Prop := warpEndsRow.holds Try.pinned (OpenSpec.ofChange warpEndsWrong)

/-- 'shapesearchlaw15.EditLeast': WHATEVER THE INPUT: true; the input reads as it did. -/
def editLeastSpec : ChangeSpec := { name := "editLeast", fn := fun _ => fun
  | [d1, d2] => { results := [.lit (.bool true)], args := [d1, d2] }
  | _ => none }
def editLeastRow : OpenClaim := { program := "ytkjffielnmdpcaa", sum := "1d33b6b33fea4b3ec6f9ef0ccdc57533d7595839030cdef313d7f119d9149dde", func := "shapesearch/shapesearchlaw15.EditLeast", spec := "editLeast", apart := false }
def EditLeastSaid : Prop := editLeastRow.holds Try.pinned (OpenSpec.ofChange editLeastSpec)

/-- ITS FALSE NEIGHBOUR: 'it returns false'. Refute it at one input. -/
def editLeastWrong : ChangeSpec := { name := "editLeast", fn := fun _ => fun
  | [d1, d2] => { results := [.lit (.bool false)], args := [d1, d2] }
  | _ => none }
def EditLeastWrongFalsely : Prop := editLeastRow.holds Try.pinned (OpenSpec.ofChange editLeastWrong)

/-- 'shapesearchlaw15.EditAll': WHATEVER THE INPUT: true; the input reads as it did. -/
def editAllSpec : ChangeSpec := { name := "editAll", fn := fun _ => fun
  | [d] => { results := [.lit (.bool true)], args := [d] }
  | _ => none }
def editAllRow : OpenClaim := { program := "ytkjffielnmdpcaa", sum := "1d33b6b33fea4b3ec6f9ef0ccdc57533d7595839030cdef313d7f119d9149dde", func := "shapesearch/shapesearchlaw15.EditAll", spec := "editAll", recurses := true, apart := false }
def EditAllSaid : Prop := editAllRow.holds Try.pinned (OpenSpec.ofChange editAllSpec)

/-- ITS FALSE NEIGHBOUR: 'it returns false'. Refute it at one input. -/
def editAllWrong : ChangeSpec := { name := "editAll", fn := fun _ => fun
  | [d] => { results := [.lit (.bool false)], args := [d] }
  | _ => none }
def EditAllWrongFalsely : Prop := editAllRow.holds Try.pinned (OpenSpec.ofChange editAllWrong)

/-- 'shapesearchlaw15.EditTriangles': WHATEVER THE INPUT: true; the input reads as it did. -/
def editTrianglesSpec : ChangeSpec := { name := "editTriangles", fn := fun _ => fun
  | [d1, d2] => { results := [.lit (.bool true)], args := [d1, d2] }
  | _ => none }
def editTrianglesRow : OpenClaim := { program := "ytkjffielnmdpcaa", sum := "1d33b6b33fea4b3ec6f9ef0ccdc57533d7595839030cdef313d7f119d9149dde", func := "shapesearch/shapesearchlaw15.EditTriangles", spec := "editTriangles", apart := false }
def EditTrianglesSaid : Prop := editTrianglesRow.holds Try.pinned (OpenSpec.ofChange editTrianglesSpec)

/-- ITS FALSE NEIGHBOUR: 'it returns false'. Refute it at one input. -/
def editTrianglesWrong : ChangeSpec := { name := "editTriangles", fn := fun _ => fun
  | [d1, d2] => { results := [.lit (.bool false)], args := [d1, d2] }
  | _ => none }
def EditTrianglesWrongFalsely : Prop := editTrianglesRow.holds Try.pinned (OpenSpec.ofChange editTrianglesWrong)

/-- 'shapesearchlaw15.EditMoves': WHATEVER THE INPUT: true; the input reads as it did. -/
def editMovesSpec : ChangeSpec := { name := "editMoves", fn := fun _ => fun
  | [d1, d2, d3] => { results := [.lit (.bool true)], args := [d1, d2, d3] }
  | _ => none }
def editMovesRow : OpenClaim := { program := "ytkjffielnmdpcaa", sum := "1d33b6b33fea4b3ec6f9ef0ccdc57533d7595839030cdef313d7f119d9149dde", func := "shapesearch/shapesearchlaw15.EditMoves", spec := "editMoves", apart := false }
def EditMovesSaid : Prop := editMovesRow.holds Try.pinned (OpenSpec.ofChange editMovesSpec)

/-- ITS FALSE NEIGHBOUR: 'it returns false'. Refute it at one input. -/
def editMovesWrong : ChangeSpec := { name := "editMoves", fn := fun _ => fun
  | [d1, d2, d3] => { results := [.lit (.bool false)], args := [d1, d2, d3] }
  | _ => none }
def EditMovesWrongFalsely : Prop := editMovesRow.holds Try.pinned (OpenSpec.ofChange editMovesWrong)

/-- 'shapesearchlaw15.EditBounds': WHATEVER THE INPUT: true; the input reads as it did. -/
def editBoundsSpec : ChangeSpec := { name := "editBounds", fn := fun _ => fun
  | [d] => { results := [.lit (.bool true)], args := [d] }
  | _ => none }
def editBoundsRow : OpenClaim := { program := "ytkjffielnmdpcaa", sum := "1d33b6b33fea4b3ec6f9ef0ccdc57533d7595839030cdef313d7f119d9149dde", func := "shapesearch/shapesearchlaw15.EditBounds", spec := "editBounds", apart := false }
def EditBoundsSaid : Prop := editBoundsRow.holds Try.pinned (OpenSpec.ofChange editBoundsSpec)

/-- ITS FALSE NEIGHBOUR: 'it returns false'. Refute it at one input. -/
def editBoundsWrong : ChangeSpec := { name := "editBounds", fn := fun _ => fun
  | [d] => { results := [.lit (.bool false)], args := [d] }
  | _ => none }
def EditBoundsWrongFalsely : Prop := editBoundsRow.holds Try.pinned (OpenSpec.ofChange editBoundsWrong)

/- THE SECOND FORM. 'bulk': how many values and letters a reading holds, each counted each time it is reached (what is shared counts as often as it is met; a slice's spare places count too). A statement '..UptoSaid' is the law's where the arguments, and the package variables that the reading takes, are together of bulk at most 1048576: NARROWER than '..Said'. Prove '..Said' where nothing that the law and all that it calls make is longer than what came in: it says more and counts as full. Else prove '..UptoSaid'. A law counts once. -/
mutual
def uptoBulk {H : Type} : DataW H → Nat
  | .lit (.string bytes) => bytes.length + 1
  | .lit _ => 1
  | .nil => 1
  | .ptr d => uptoBulk d + 1
  | .slice elems spare => uptoBulkAll elems + uptoBulkAll spare + 1
  | .agg parts => uptoBulkAll parts + 1
  | .iface _ d => uptoBulk d + 1
  | .map entries => uptoBulkEntries entries + 1
  | .held _ => 1
def uptoBulkAll {H : Type} : List (DataW H) → Nat
  | [] => 0
  | d :: r => uptoBulk d + uptoBulkAll r
def uptoBulkEntries {H : Type} : List (Lit × DataW H) → Nat
  | [] => 0
  | x :: r => uptoBulkEntry x + uptoBulkEntries r
def uptoBulkEntry {H : Type} : Lit × DataW H → Nat
  | (.string bytes, d) => bytes.length + uptoBulk d + 1
  | (_, d) => uptoBulk d + 1
 end
def uptoSmall : (H : Type) → List (DataW H) → Bool := fun _ ds => decide (uptoBulkAll ds ≤ 1048576)
def OpenSpec.upto (s : _root_.Go.ChangeSpec) : _root_.Go.OpenSpec := { _root_.Go.OpenSpec.ofChange s with cond := some uptoSmall }

/-- 'shapesearchlaw14.WarpLeast', WHERE WHAT IT READS IS OF BULK AT MOST 1048576: true; the input reads as it did. -/
def warpLeastUptoRow : OpenClaim := { program := "ytkjffielnmdpcaa", sum := "1d33b6b33fea4b3ec6f9ef0ccdc57533d7595839030cdef313d7f119d9149dde", func := "shapesearch/shapesearchlaw14.WarpLeast", spec := "warpLeast", unfollowed := true, recurses := true, apart := false, narrowed := true }
def WarpLeastUptoSaid : Prop := warpLeastUptoRow.holds Try.pinned (OpenSpec.upto warpLeastSpec)

/-- 'shapesearchlaw14.WarpAll', WHERE WHAT IT READS IS OF BULK AT MOST 1048576: true; the input reads as it did. -/
def warpAllUptoRow : OpenClaim := { program := "ytkjffielnmdpcaa", sum := "1d33b6b33fea4b3ec6f9ef0ccdc57533d7595839030cdef313d7f119d9149dde", func := "shapesearch/shapesearchlaw14.WarpAll", spec := "warpAll", unfollowed := true, recurses := true, apart := false, narrowed := true }
def WarpAllUptoSaid : Prop := warpAllUptoRow.holds Try.pinned (OpenSpec.upto warpAllSpec)

/-- 'shapesearchlaw14.WarpBands', WHERE WHAT IT READS IS OF BULK AT MOST 1048576: true; the input reads as it did. -/
def warpBandsUptoRow : OpenClaim := { program := "ytkjffielnmdpcaa", sum := "1d33b6b33fea4b3ec6f9ef0ccdc57533d7595839030cdef313d7f119d9149dde", func := "shapesearch/shapesearchlaw14.WarpBands", spec := "warpBands", unfollowed := true, recurses := true, apart := false, narrowed := true }
def WarpBandsUptoSaid : Prop := warpBandsUptoRow.holds Try.pinned (OpenSpec.upto warpBandsSpec)

/-- 'shapesearchlaw14.WarpMoves', WHERE WHAT IT READS IS OF BULK AT MOST 1048576: true; the input reads as it did. -/
def warpMovesUptoRow : OpenClaim := { program := "ytkjffielnmdpcaa", sum := "1d33b6b33fea4b3ec6f9ef0ccdc57533d7595839030cdef313d7f119d9149dde", func := "shapesearch/shapesearchlaw14.WarpMoves", spec := "warpMoves", unfollowed := true, recurses := true, apart := false, narrowed := true }
def WarpMovesUptoSaid : Prop := warpMovesUptoRow.holds Try.pinned (OpenSpec.upto warpMovesSpec)

/-- 'shapesearchlaw14.WarpRepeats', WHERE WHAT IT READS IS OF BULK AT MOST 1048576: true; the input reads as it did. -/
def warpRepeatsUptoRow : OpenClaim := { program := "ytkjffielnmdpcaa", sum := "1d33b6b33fea4b3ec6f9ef0ccdc57533d7595839030cdef313d7f119d9149dde", func := "shapesearch/shapesearchlaw14.WarpRepeats", spec := "warpRepeats", unfollowed := true, recurses := true, apart := false, narrowed := true }
def WarpRepeatsUptoSaid : Prop := warpRepeatsUptoRow.holds Try.pinned (OpenSpec.upto warpRepeatsSpec)

/-- 'shapesearchlaw14.WarpEnds', WHERE WHAT IT READS IS OF BULK AT MOST 1048576: true; the input reads as it did. -/
def warpEndsUptoRow : OpenClaim := { program := "ytkjffielnmdpcaa", sum := "1d33b6b33fea4b3ec6f9ef0ccdc57533d7595839030cdef313d7f119d9149dde", func := "shapesearch/shapesearchlaw14.WarpEnds", spec := "warpEnds", unfollowed := true, recurses := true, apart := false, narrowed := true }
def WarpEndsUptoSaid : Prop := warpEndsUptoRow.holds Try.pinned (OpenSpec.upto warpEndsSpec)

/-- 'shapesearchlaw15.EditLeast', WHERE WHAT IT READS IS OF BULK AT MOST 1048576: true; the input reads as it did. -/
def editLeastUptoRow : OpenClaim := { program := "ytkjffielnmdpcaa", sum := "1d33b6b33fea4b3ec6f9ef0ccdc57533d7595839030cdef313d7f119d9149dde", func := "shapesearch/shapesearchlaw15.EditLeast", spec := "editLeast", apart := false, narrowed := true }
def EditLeastUptoSaid : Prop := editLeastUptoRow.holds Try.pinned (OpenSpec.upto editLeastSpec)

/-- 'shapesearchlaw15.EditAll', WHERE WHAT IT READS IS OF BULK AT MOST 1048576: true; the input reads as it did. -/
def editAllUptoRow : OpenClaim := { program := "ytkjffielnmdpcaa", sum := "1d33b6b33fea4b3ec6f9ef0ccdc57533d7595839030cdef313d7f119d9149dde", func := "shapesearch/shapesearchlaw15.EditAll", spec := "editAll", recurses := true, apart := false, narrowed := true }
def EditAllUptoSaid : Prop := editAllUptoRow.holds Try.pinned (OpenSpec.upto editAllSpec)

/-- 'shapesearchlaw15.EditTriangles', WHERE WHAT IT READS IS OF BULK AT MOST 1048576: true; the input reads as it did. -/
def editTrianglesUptoRow : OpenClaim := { program := "ytkjffielnmdpcaa", sum := "1d33b6b33fea4b3ec6f9ef0ccdc57533d7595839030cdef313d7f119d9149dde", func := "shapesearch/shapesearchlaw15.EditTriangles", spec := "editTriangles", apart := false, narrowed := true }
def EditTrianglesUptoSaid : Prop := editTrianglesUptoRow.holds Try.pinned (OpenSpec.upto editTrianglesSpec)

/-- 'shapesearchlaw15.EditMoves', WHERE WHAT IT READS IS OF BULK AT MOST 1048576: true; the input reads as it did. -/
def editMovesUptoRow : OpenClaim := { program := "ytkjffielnmdpcaa", sum := "1d33b6b33fea4b3ec6f9ef0ccdc57533d7595839030cdef313d7f119d9149dde", func := "shapesearch/shapesearchlaw15.EditMoves", spec := "editMoves", apart := false, narrowed := true }
def EditMovesUptoSaid : Prop := editMovesUptoRow.holds Try.pinned (OpenSpec.upto editMovesSpec)

/-- 'shapesearchlaw15.EditBounds', WHERE WHAT IT READS IS OF BULK AT MOST 1048576: true; the input reads as it did. -/
def editBoundsUptoRow : OpenClaim := { program := "ytkjffielnmdpcaa", sum := "1d33b6b33fea4b3ec6f9ef0ccdc57533d7595839030cdef313d7f119d9149dde", func := "shapesearch/shapesearchlaw15.EditBounds", spec := "editBounds", apart := false, narrowed := true }
def EditBoundsUptoSaid : Prop := editBoundsUptoRow.holds Try.pinned (OpenSpec.upto editBoundsSpec)

end Rows
end Go.Proofs.Ytkjffielnmdpcaa
