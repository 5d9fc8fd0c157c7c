/-
  No cell of these rows narrows 'for every input' (looked for: loops, veiled, ifaces, maps, wideKeys, modest, calm, conditions, laid).
  DERIVED. THE GIVEN ROWS OF THIS SEAT. 9 by the template 'for every input the law returns true; each argument reads behind the call as it read before'; 0 by the template 'total and deterministic' (their statements: YtpbnabibnkohdaaTotals.lean).
  GIVEN WITH THE SEED: the statements are not yours to turn. If you find one false, say at which input.
  Laid BY PROGRAM, IN A SANDBOX (cutbox-rows.mjs): the forced cells as the released guide's own fill.sh prints them over the translation ce86774b7cb041a6… (all of the seat's roots in one cut). By AI agents, Wed Nov 11 2026. No macro, syntax, notation, axiom, sorry.
-/
import Derived.Test.YtpbnabibnkohdaaChecked
import GoSem.Claim
import GoSem.ClaimJoined
import GoSem.ClaimMapViews
import Derived.JoinedTies
import Derived.KernelRfl
namespace Go.Proofs.Ytpbnabibnkohdaa
/- THE CELL 'sum', in the pinned program and in every row, IS THE sha256 OF THE DUMP (.gsa) THAT YtpbnabibnkohdaaProg.lean LOADS. Nothing in Lean hashes anything: it is a label: what it is worth is what the hold of that sum in a sandbox is worth. -/
noncomputable def Try.pinned : Pinned := { name := "ytpbnabibnkohdaa", sum := "ce86774b7cb041a6d953bf27686e1e19fe2f1a1162bfac11c36e45778f6c70d6", checked := Try.checked }
namespace Rows
def none {H : Type} : Left H := { results := [], args := [] }

/-- 'shapesearchlaw21.SketchFull': WHATEVER THE INPUT: true; the input reads as it did. -/
def sketchFullSpec : ChangeSpec := { name := "sketchFull", fn := fun _ => fun
  | [d] => { results := [.lit (.bool true)], args := [d] }
  | _ => none }
def sketchFullRow : OpenClaim := { program := "ytpbnabibnkohdaa", sum := "ce86774b7cb041a6d953bf27686e1e19fe2f1a1162bfac11c36e45778f6c70d6", func := "shapesearch/shapesearchlaw21.SketchFull", spec := "sketchFull", unfollowed := true, recurses := true, apart := false }
def SketchFullSaid : Prop := sketchFullRow.holds Try.pinned (OpenSpec.ofChange sketchFullSpec)

/-- ITS FALSE NEIGHBOUR: 'it returns false'. Refute it at one input. -/
def sketchFullWrong : ChangeSpec := { name := "sketchFull", fn := fun _ => fun
  | [d] => { results := [.lit (.bool false)], args := [d] }
  | _ => none }
def SketchFullWrongFalsely : Prop := sketchFullRow.holds Try.pinned (OpenSpec.ofChange sketchFullWrong)

/-- 'shapesearchlaw21.SketchBounds': WHATEVER THE INPUT: true; the input reads as it did. -/
def sketchBoundsSpec : ChangeSpec := { name := "sketchBounds", fn := fun _ => fun
  | [d] => { results := [.lit (.bool true)], args := [d] }
  | _ => none }
def sketchBoundsRow : OpenClaim := { program := "ytpbnabibnkohdaa", sum := "ce86774b7cb041a6d953bf27686e1e19fe2f1a1162bfac11c36e45778f6c70d6", func := "shapesearch/shapesearchlaw21.SketchBounds", spec := "sketchBounds", unfollowed := true, recurses := true, apart := false }
def SketchBoundsSaid : Prop := sketchBoundsRow.holds Try.pinned (OpenSpec.ofChange sketchBoundsSpec)

/-- ITS FALSE NEIGHBOUR: 'it returns false'. Refute it at one input. -/
def sketchBoundsWrong : ChangeSpec := { name := "sketchBounds", fn := fun _ => fun
  | [d] => { results := [.lit (.bool false)], args := [d] }
  | _ => none }
def SketchBoundsWrongFalsely : Prop := sketchBoundsRow.holds Try.pinned (OpenSpec.ofChange sketchBoundsWrong)

/-- 'shapesearchlaw21.SketchShifts': WHATEVER THE INPUT: true; the input reads as it did. -/
def sketchShiftsSpec : ChangeSpec := { name := "sketchShifts", fn := fun _ => fun
  | [d1, d2, d3] => { results := [.lit (.bool true)], args := [d1, d2, d3] }
  | _ => none }
def sketchShiftsRow : OpenClaim := { program := "ytpbnabibnkohdaa", sum := "ce86774b7cb041a6d953bf27686e1e19fe2f1a1162bfac11c36e45778f6c70d6", func := "shapesearch/shapesearchlaw21.SketchShifts", spec := "sketchShifts", unfollowed := true, recurses := true, apart := false }
def SketchShiftsSaid : Prop := sketchShiftsRow.holds Try.pinned (OpenSpec.ofChange sketchShiftsSpec)

/-- ITS FALSE NEIGHBOUR: 'it returns false'. Refute it at one input. -/
def sketchShiftsWrong : ChangeSpec := { name := "sketchShifts", fn := fun _ => fun
  | [d1, d2, d3] => { results := [.lit (.bool false)], args := [d1, d2, d3] }
  | _ => none }
def SketchShiftsWrongFalsely : Prop := sketchShiftsRow.holds Try.pinned (OpenSpec.ofChange sketchShiftsWrong)

/-- 'shapesearchlaw21.SketchNarrow': WHATEVER THE INPUT: true; the input reads as it did. -/
def sketchNarrowSpec : ChangeSpec := { name := "sketchNarrow", fn := fun _ => fun
  | [d] => { results := [.lit (.bool true)], args := [d] }
  | _ => none }
def sketchNarrowRow : OpenClaim := { program := "ytpbnabibnkohdaa", sum := "ce86774b7cb041a6d953bf27686e1e19fe2f1a1162bfac11c36e45778f6c70d6", func := "shapesearch/shapesearchlaw21.SketchNarrow", spec := "sketchNarrow", unfollowed := true, recurses := true, apart := false }
def SketchNarrowSaid : Prop := sketchNarrowRow.holds Try.pinned (OpenSpec.ofChange sketchNarrowSpec)

/-- ITS FALSE NEIGHBOUR: 'it returns false'. Refute it at one input. -/
def sketchNarrowWrong : ChangeSpec := { name := "sketchNarrow", fn := fun _ => fun
  | [d] => { results := [.lit (.bool false)], args := [d] }
  | _ => none }
def SketchNarrowWrongFalsely : Prop := sketchNarrowRow.holds Try.pinned (OpenSpec.ofChange sketchNarrowWrong)

/-- 'shapesearchlaw21.SketchRegions': WHATEVER THE INPUT: true; the input reads as it did. -/
def sketchRegionsSpec : ChangeSpec := { name := "sketchRegions", fn := fun _ => fun
  | [d] => { results := [.lit (.bool true)], args := [d] }
  | _ => none }
def sketchRegionsRow : OpenClaim := { program := "ytpbnabibnkohdaa", sum := "ce86774b7cb041a6d953bf27686e1e19fe2f1a1162bfac11c36e45778f6c70d6", func := "shapesearch/shapesearchlaw21.SketchRegions", spec := "sketchRegions", unfollowed := true, recurses := true, apart := false }
def SketchRegionsSaid : Prop := sketchRegionsRow.holds Try.pinned (OpenSpec.ofChange sketchRegionsSpec)

/-- ITS FALSE NEIGHBOUR: 'it returns false'. Refute it at one input. -/
def sketchRegionsWrong : ChangeSpec := { name := "sketchRegions", fn := fun _ => fun
  | [d] => { results := [.lit (.bool false)], args := [d] }
  | _ => none }
def SketchRegionsWrongFalsely : Prop := sketchRegionsRow.holds Try.pinned (OpenSpec.ofChange sketchRegionsWrong)

/-- 'shapesearchlaw07.CleanTurned': WHATEVER THE INPUT: true; the input reads as it did. -/
def cleanTurnedSpec : ChangeSpec := { name := "cleanTurned", fn := fun _ => fun
  | [d1, d2, d3] => { results := [.lit (.bool true)], args := [d1, d2, d3] }
  | _ => none }
def cleanTurnedRow : OpenClaim := { program := "ytpbnabibnkohdaa", sum := "ce86774b7cb041a6d953bf27686e1e19fe2f1a1162bfac11c36e45778f6c70d6", func := "shapesearch/shapesearchlaw07.CleanTurned", spec := "cleanTurned", unfollowed := true, recurses := true, apart := false }
def CleanTurnedSaid : Prop := cleanTurnedRow.holds Try.pinned (OpenSpec.ofChange cleanTurnedSpec)

/-- ITS FALSE NEIGHBOUR: 'it returns false'. Refute it at one input. -/
def cleanTurnedWrong : ChangeSpec := { name := "cleanTurned", fn := fun _ => fun
  | [d1, d2, d3] => { results := [.lit (.bool false)], args := [d1, d2, d3] }
  | _ => none }
def CleanTurnedWrongFalsely : Prop := cleanTurnedRow.holds Try.pinned (OpenSpec.ofChange cleanTurnedWrong)

/-- 'shapesearchlaw07.CleanRepeats': WHATEVER THE INPUT: true; the input reads as it did. -/
def cleanRepeatsSpec : ChangeSpec := { name := "cleanRepeats", fn := fun _ => fun
  | [d] => { results := [.lit (.bool true)], args := [d] }
  | _ => none }
def cleanRepeatsRow : OpenClaim := { program := "ytpbnabibnkohdaa", sum := "ce86774b7cb041a6d953bf27686e1e19fe2f1a1162bfac11c36e45778f6c70d6", func := "shapesearch/shapesearchlaw07.CleanRepeats", spec := "cleanRepeats", unfollowed := true, recurses := true, apart := false }
def CleanRepeatsSaid : Prop := cleanRepeatsRow.holds Try.pinned (OpenSpec.ofChange cleanRepeatsSpec)

/-- ITS FALSE NEIGHBOUR: 'it returns false'. Refute it at one input. -/
def cleanRepeatsWrong : ChangeSpec := { name := "cleanRepeats", fn := fun _ => fun
  | [d] => { results := [.lit (.bool false)], args := [d] }
  | _ => none }
def CleanRepeatsWrongFalsely : Prop := cleanRepeatsRow.holds Try.pinned (OpenSpec.ofChange cleanRepeatsWrong)

/-- 'shapesearchlaw07.CleanSources': WHATEVER THE INPUT: true; the input reads as it did. -/
def cleanSourcesSpec : ChangeSpec := { name := "cleanSources", fn := fun _ => fun
  | [d1, d2, d3] => { results := [.lit (.bool true)], args := [d1, d2, d3] }
  | _ => none }
def cleanSourcesRow : OpenClaim := { program := "ytpbnabibnkohdaa", sum := "ce86774b7cb041a6d953bf27686e1e19fe2f1a1162bfac11c36e45778f6c70d6", func := "shapesearch/shapesearchlaw07.CleanSources", spec := "cleanSources", unfollowed := true, recurses := true, apart := false }
def CleanSourcesSaid : Prop := cleanSourcesRow.holds Try.pinned (OpenSpec.ofChange cleanSourcesSpec)

/-- ITS FALSE NEIGHBOUR: 'it returns false'. Refute it at one input. -/
def cleanSourcesWrong : ChangeSpec := { name := "cleanSources", fn := fun _ => fun
  | [d1, d2, d3] => { results := [.lit (.bool false)], args := [d1, d2, d3] }
  | _ => none }
def CleanSourcesWrongFalsely : Prop := cleanSourcesRow.holds Try.pinned (OpenSpec.ofChange cleanSourcesWrong)

/-- 'shapesearchlaw07.CleanBetween': WHATEVER THE INPUT: true; the input reads as it did. -/
def cleanBetweenSpec : ChangeSpec := { name := "cleanBetween", fn := fun _ => fun
  | [d] => { results := [.lit (.bool true)], args := [d] }
  | _ => none }
def cleanBetweenRow : OpenClaim := { program := "ytpbnabibnkohdaa", sum := "ce86774b7cb041a6d953bf27686e1e19fe2f1a1162bfac11c36e45778f6c70d6", func := "shapesearch/shapesearchlaw07.CleanBetween", spec := "cleanBetween", unfollowed := true, recurses := true, apart := false }
def CleanBetweenSaid : Prop := cleanBetweenRow.holds Try.pinned (OpenSpec.ofChange cleanBetweenSpec)

/-- ITS FALSE NEIGHBOUR: 'it returns false'. Refute it at one input. -/
def cleanBetweenWrong : ChangeSpec := { name := "cleanBetween", fn := fun _ => fun
  | [d] => { results := [.lit (.bool false)], args := [d] }
  | _ => none }
def CleanBetweenWrongFalsely : Prop := cleanBetweenRow.holds Try.pinned (OpenSpec.ofChange cleanBetweenWrong)

/- THE SECOND FORM. 'bulk': how many values and letters a reading holds, each counted each time it is reached (what is shared counts as often as it is met; a slice's spare places count too). A statement '..UptoSaid' is the law's where the arguments, and the package variables that the reading takes, are together of bulk at most 1048576: NARROWER than '..Said'. Prove '..Said' where nothing that the law and all that it calls make is longer than what came in: it says more and counts as full. Else prove '..UptoSaid'. A law counts once. -/
mutual
def uptoBulk {H : Type} : DataW H → Nat
  | .lit (.string bytes) => bytes.length + 1
  | .lit _ => 1
  | .nil => 1
  | .ptr d => uptoBulk d + 1
  | .slice elems spare => uptoBulkAll elems + uptoBulkAll spare + 1
  | .agg parts => uptoBulkAll parts + 1
  | .iface _ d => uptoBulk d + 1
  | .map entries => uptoBulkEntries entries + 1
  | .held _ => 1
def uptoBulkAll {H : Type} : List (DataW H) → Nat
  | [] => 0
  | d :: r => uptoBulk d + uptoBulkAll r
def uptoBulkEntries {H : Type} : List (Lit × DataW H) → Nat
  | [] => 0
  | x :: r => uptoBulkEntry x + uptoBulkEntries r
def uptoBulkEntry {H : Type} : Lit × DataW H → Nat
  | (.string bytes, d) => bytes.length + uptoBulk d + 1
  | (_, d) => uptoBulk d + 1
 end
def uptoSmall : (H : Type) → List (DataW H) → Bool := fun _ ds => decide (uptoBulkAll ds ≤ 1048576)
def OpenSpec.upto (s : _root_.Go.ChangeSpec) : _root_.Go.OpenSpec := { _root_.Go.OpenSpec.ofChange s with cond := some uptoSmall }

/-- 'shapesearchlaw21.SketchFull', WHERE WHAT IT READS IS OF BULK AT MOST 1048576: true; the input reads as it did. -/
def sketchFullUptoRow : OpenClaim := { program := "ytpbnabibnkohdaa", sum := "ce86774b7cb041a6d953bf27686e1e19fe2f1a1162bfac11c36e45778f6c70d6", func := "shapesearch/shapesearchlaw21.SketchFull", spec := "sketchFull", unfollowed := true, recurses := true, apart := false, narrowed := true }
def SketchFullUptoSaid : Prop := sketchFullUptoRow.holds Try.pinned (OpenSpec.upto sketchFullSpec)

/-- 'shapesearchlaw21.SketchBounds', WHERE WHAT IT READS IS OF BULK AT MOST 1048576: true; the input reads as it did. -/
def sketchBoundsUptoRow : OpenClaim := { program := "ytpbnabibnkohdaa", sum := "ce86774b7cb041a6d953bf27686e1e19fe2f1a1162bfac11c36e45778f6c70d6", func := "shapesearch/shapesearchlaw21.SketchBounds", spec := "sketchBounds", unfollowed := true, recurses := true, apart := false, narrowed := true }
def SketchBoundsUptoSaid : Prop := sketchBoundsUptoRow.holds Try.pinned (OpenSpec.upto sketchBoundsSpec)

/-- 'shapesearchlaw21.SketchShifts', WHERE WHAT IT READS IS OF BULK AT MOST 1048576: true; the input reads as it did. -/
def sketchShiftsUptoRow : OpenClaim := { program := "ytpbnabibnkohdaa", sum := "ce86774b7cb041a6d953bf27686e1e19fe2f1a1162bfac11c36e45778f6c70d6", func := "shapesearch/shapesearchlaw21.SketchShifts", spec := "sketchShifts", unfollowed := true, recurses := true, apart := false, narrowed := true }
def SketchShiftsUptoSaid : Prop := sketchShiftsUptoRow.holds Try.pinned (OpenSpec.upto sketchShiftsSpec)

/-- 'shapesearchlaw21.SketchNarrow', WHERE WHAT IT READS IS OF BULK AT MOST 1048576: true; the input reads as it did. -/
def sketchNarrowUptoRow : OpenClaim := { program := "ytpbnabibnkohdaa", sum := "ce86774b7cb041a6d953bf27686e1e19fe2f1a1162bfac11c36e45778f6c70d6", func := "shapesearch/shapesearchlaw21.SketchNarrow", spec := "sketchNarrow", unfollowed := true, recurses := true, apart := false, narrowed := true }
def SketchNarrowUptoSaid : Prop := sketchNarrowUptoRow.holds Try.pinned (OpenSpec.upto sketchNarrowSpec)

/-- 'shapesearchlaw21.SketchRegions', WHERE WHAT IT READS IS OF BULK AT MOST 1048576: true; the input reads as it did. -/
def sketchRegionsUptoRow : OpenClaim := { program := "ytpbnabibnkohdaa", sum := "ce86774b7cb041a6d953bf27686e1e19fe2f1a1162bfac11c36e45778f6c70d6", func := "shapesearch/shapesearchlaw21.SketchRegions", spec := "sketchRegions", unfollowed := true, recurses := true, apart := false, narrowed := true }
def SketchRegionsUptoSaid : Prop := sketchRegionsUptoRow.holds Try.pinned (OpenSpec.upto sketchRegionsSpec)

/-- 'shapesearchlaw07.CleanTurned', WHERE WHAT IT READS IS OF BULK AT MOST 1048576: true; the input reads as it did. -/
def cleanTurnedUptoRow : OpenClaim := { program := "ytpbnabibnkohdaa", sum := "ce86774b7cb041a6d953bf27686e1e19fe2f1a1162bfac11c36e45778f6c70d6", func := "shapesearch/shapesearchlaw07.CleanTurned", spec := "cleanTurned", unfollowed := true, recurses := true, apart := false, narrowed := true }
def CleanTurnedUptoSaid : Prop := cleanTurnedUptoRow.holds Try.pinned (OpenSpec.upto cleanTurnedSpec)

/-- 'shapesearchlaw07.CleanRepeats', WHERE WHAT IT READS IS OF BULK AT MOST 1048576: true; the input reads as it did. -/
def cleanRepeatsUptoRow : OpenClaim := { program := "ytpbnabibnkohdaa", sum := "ce86774b7cb041a6d953bf27686e1e19fe2f1a1162bfac11c36e45778f6c70d6", func := "shapesearch/shapesearchlaw07.CleanRepeats", spec := "cleanRepeats", unfollowed := true, recurses := true, apart := false, narrowed := true }
def CleanRepeatsUptoSaid : Prop := cleanRepeatsUptoRow.holds Try.pinned (OpenSpec.upto cleanRepeatsSpec)

/-- 'shapesearchlaw07.CleanSources', WHERE WHAT IT READS IS OF BULK AT MOST 1048576: true; the input reads as it did. -/
def cleanSourcesUptoRow : OpenClaim := { program := "ytpbnabibnkohdaa", sum := "ce86774b7cb041a6d953bf27686e1e19fe2f1a1162bfac11c36e45778f6c70d6", func := "shapesearch/shapesearchlaw07.CleanSources", spec := "cleanSources", unfollowed := true, recurses := true, apart := false, narrowed := true }
def CleanSourcesUptoSaid : Prop := cleanSourcesUptoRow.holds Try.pinned (OpenSpec.upto cleanSourcesSpec)

/-- 'shapesearchlaw07.CleanBetween', WHERE WHAT IT READS IS OF BULK AT MOST 1048576: true; the input reads as it did. -/
def cleanBetweenUptoRow : OpenClaim := { program := "ytpbnabibnkohdaa", sum := "ce86774b7cb041a6d953bf27686e1e19fe2f1a1162bfac11c36e45778f6c70d6", func := "shapesearch/shapesearchlaw07.CleanBetween", spec := "cleanBetween", unfollowed := true, recurses := true, apart := false, narrowed := true }
def CleanBetweenUptoSaid : Prop := cleanBetweenUptoRow.holds Try.pinned (OpenSpec.upto cleanBetweenSpec)

end Rows
end Go.Proofs.Ytpbnabibnkohdaa
