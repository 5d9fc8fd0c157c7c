/-
  No cell of these rows narrows 'for every input' (looked for: loops, veiled, ifaces, maps, wideKeys, modest, calm, conditions, laid).
  DERIVED. THE GIVEN ROWS OF THIS SEAT. 5 by the template 'for every input the law returns true; each argument reads behind the call as it read before'; 0 by the template 'total and deterministic' (their statements: YtgcjangnlbhicaaTotals.lean).
  GIVEN WITH THE SEED: the statements are not yours to turn. If you find one false, say at which input.
  Laid BY PROGRAM, IN A SANDBOX (cutbox-rows.mjs): the forced cells as the released guide's own fill.sh prints them over the translation e352b4b308d75050… (all of the seat's roots in one cut). By AI agents, Wed Nov 11 2026. No macro, syntax, notation, axiom, sorry.
-/
import Derived.Test.YtgcjangnlbhicaaChecked
import GoSem.Claim
import GoSem.ClaimJoined
import GoSem.ClaimMapViews
import Derived.JoinedTies
import Derived.KernelRfl
namespace Go.Proofs.Ytgcjangnlbhicaa
/- THE CELL 'sum', in the pinned program and in every row, IS THE sha256 OF THE DUMP (.gsa) THAT YtgcjangnlbhicaaProg.lean LOADS. Nothing in Lean hashes anything: it is a label: what it is worth is what the hold of that sum in a sandbox is worth. -/
noncomputable def Try.pinned : Pinned := { name := "ytgcjangnlbhicaa", sum := "e352b4b308d75050735f6384dfc75e99efea08c7f52fc29a3c03eb056de2aeac", checked := Try.checked }
namespace Rows
def none {H : Type} : Left H := { results := [], args := [] }

/-- 'shapesearchlaw07.CleanTurned': WHATEVER THE INPUT: true; the input reads as it did. -/
def cleanTurnedSpec : ChangeSpec := { name := "cleanTurned", fn := fun _ => fun
  | [d1, d2, d3] => { results := [.lit (.bool true)], args := [d1, d2, d3] }
  | _ => none }
def cleanTurnedRow : OpenClaim := { program := "ytgcjangnlbhicaa", sum := "e352b4b308d75050735f6384dfc75e99efea08c7f52fc29a3c03eb056de2aeac", func := "shapesearch/shapesearchlaw07.CleanTurned", spec := "cleanTurned", unfollowed := true, recurses := true, apart := false }
def CleanTurnedSaid : Prop := cleanTurnedRow.holds Try.pinned (OpenSpec.ofChange cleanTurnedSpec)

/-- ITS FALSE NEIGHBOUR: 'it returns false'. Refute it at one input. -/
def cleanTurnedWrong : ChangeSpec := { name := "cleanTurned", fn := fun _ => fun
  | [d1, d2, d3] => { results := [.lit (.bool false)], args := [d1, d2, d3] }
  | _ => none }
def CleanTurnedWrongFalsely : Prop := cleanTurnedRow.holds Try.pinned (OpenSpec.ofChange cleanTurnedWrong)

/-- 'shapesearchlaw07.CleanRepeats': WHATEVER THE INPUT: true; the input reads as it did. -/
def cleanRepeatsSpec : ChangeSpec := { name := "cleanRepeats", fn := fun _ => fun
  | [d] => { results := [.lit (.bool true)], args := [d] }
  | _ => none }
def cleanRepeatsRow : OpenClaim := { program := "ytgcjangnlbhicaa", sum := "e352b4b308d75050735f6384dfc75e99efea08c7f52fc29a3c03eb056de2aeac", func := "shapesearch/shapesearchlaw07.CleanRepeats", spec := "cleanRepeats", unfollowed := true, recurses := true, apart := false }
def CleanRepeatsSaid : Prop := cleanRepeatsRow.holds Try.pinned (OpenSpec.ofChange cleanRepeatsSpec)

/-- ITS FALSE NEIGHBOUR: 'it returns false'. Refute it at one input. -/
def cleanRepeatsWrong : ChangeSpec := { name := "cleanRepeats", fn := fun _ => fun
  | [d] => { results := [.lit (.bool false)], args := [d] }
  | _ => none }
def CleanRepeatsWrongFalsely : Prop := cleanRepeatsRow.holds Try.pinned (OpenSpec.ofChange cleanRepeatsWrong)

/-- 'shapesearchlaw07.CleanSources': WHATEVER THE INPUT: true; the input reads as it did. -/
def cleanSourcesSpec : ChangeSpec := { name := "cleanSources", fn := fun _ => fun
  | [d1, d2, d3] => { results := [.lit (.bool true)], args := [d1, d2, d3] }
  | _ => none }
def cleanSourcesRow : OpenClaim := { program := "ytgcjangnlbhicaa", sum := "e352b4b308d75050735f6384dfc75e99efea08c7f52fc29a3c03eb056de2aeac", func := "shapesearch/shapesearchlaw07.CleanSources", spec := "cleanSources", unfollowed := true, recurses := true, apart := false }
def CleanSourcesSaid : Prop := cleanSourcesRow.holds Try.pinned (OpenSpec.ofChange cleanSourcesSpec)

/-- ITS FALSE NEIGHBOUR: 'it returns false'. Refute it at one input. -/
def cleanSourcesWrong : ChangeSpec := { name := "cleanSources", fn := fun _ => fun
  | [d1, d2, d3] => { results := [.lit (.bool false)], args := [d1, d2, d3] }
  | _ => none }
def CleanSourcesWrongFalsely : Prop := cleanSourcesRow.holds Try.pinned (OpenSpec.ofChange cleanSourcesWrong)

/-- 'shapesearchlaw07.CleanBetween': WHATEVER THE INPUT: true; the input reads as it did. -/
def cleanBetweenSpec : ChangeSpec := { name := "cleanBetween", fn := fun _ => fun
  | [d] => { results := [.lit (.bool true)], args := [d] }
  | _ => none }
def cleanBetweenRow : OpenClaim := { program := "ytgcjangnlbhicaa", sum := "e352b4b308d75050735f6384dfc75e99efea08c7f52fc29a3c03eb056de2aeac", func := "shapesearch/shapesearchlaw07.CleanBetween", spec := "cleanBetween", unfollowed := true, recurses := true, apart := false }
def CleanBetweenSaid : Prop := cleanBetweenRow.holds Try.pinned (OpenSpec.ofChange cleanBetweenSpec)

/-- ITS FALSE NEIGHBOUR: 'it returns false'. Refute it at one input. -/
def cleanBetweenWrong : ChangeSpec := { name := "cleanBetween", fn := fun _ => fun
  | [d] => { results := [.lit (.bool false)], args := [d] }
  | _ => none }
def CleanBetweenWrongFalsely : Prop := cleanBetweenRow.holds Try.pinned (OpenSpec.ofChange cleanBetweenWrong)

/-- 'shapesearchlaw07.CleanOnce': WHATEVER THE INPUT: true; the input reads as it did. -/
def cleanOnceSpec : ChangeSpec := { name := "cleanOnce", fn := fun _ => fun
  | [d1, d2, d3] => { results := [.lit (.bool true)], args := [d1, d2, d3] }
  | _ => none }
def cleanOnceRow : OpenClaim := { program := "ytgcjangnlbhicaa", sum := "e352b4b308d75050735f6384dfc75e99efea08c7f52fc29a3c03eb056de2aeac", func := "shapesearch/shapesearchlaw07.CleanOnce", spec := "cleanOnce", unfollowed := true, recurses := true, apart := false }
def CleanOnceSaid : Prop := cleanOnceRow.holds Try.pinned (OpenSpec.ofChange cleanOnceSpec)

/-- ITS FALSE NEIGHBOUR: 'it returns false'. Refute it at one input. -/
def cleanOnceWrong : ChangeSpec := { name := "cleanOnce", fn := fun _ => fun
  | [d1, d2, d3] => { results := [.lit (.bool false)], args := [d1, d2, d3] }
  | _ => none }
def CleanOnceWrongFalsely : Prop := cleanOnceRow.holds Try.pinned (OpenSpec.ofChange cleanOnceWrong)

/- THE SECOND FORM. 'bulk': how many values and letters a reading holds, each counted each time it is reached (what is shared counts as often as it is met; a slice's spare places count too). A statement '..UptoSaid' is the law's where the arguments, and the package variables that the reading takes, are together of bulk at most 1048576: NARROWER than '..Said'. Prove '..Said' where nothing that the law and all that it calls make is longer than what came in: it says more and counts as full. Else prove '..UptoSaid'. A law counts once. -/
mutual
def uptoBulk {H : Type} : DataW H → Nat
  | .lit (.string bytes) => bytes.length + 1
  | .lit _ => 1
  | .nil => 1
  | .ptr d => uptoBulk d + 1
  | .slice elems spare => uptoBulkAll elems + uptoBulkAll spare + 1
  | .agg parts => uptoBulkAll parts + 1
  | .iface _ d => uptoBulk d + 1
  | .map entries => uptoBulkEntries entries + 1
  | .held _ => 1
def uptoBulkAll {H : Type} : List (DataW H) → Nat
  | [] => 0
  | d :: r => uptoBulk d + uptoBulkAll r
def uptoBulkEntries {H : Type} : List (Lit × DataW H) → Nat
  | [] => 0
  | x :: r => uptoBulkEntry x + uptoBulkEntries r
def uptoBulkEntry {H : Type} : Lit × DataW H → Nat
  | (.string bytes, d) => bytes.length + uptoBulk d + 1
  | (_, d) => uptoBulk d + 1
 end
def uptoSmall : (H : Type) → List (DataW H) → Bool := fun _ ds => decide (uptoBulkAll ds ≤ 1048576)
def OpenSpec.upto (s : _root_.Go.ChangeSpec) : _root_.Go.OpenSpec := { _root_.Go.OpenSpec.ofChange s with cond := some uptoSmall }

/-- 'shapesearchlaw07.CleanTurned', WHERE WHAT IT READS IS OF BULK AT MOST 1048576: true; the input reads as it did. -/
def cleanTurnedUptoRow : OpenClaim := { program := "ytgcjangnlbhicaa", sum := "e352b4b308d75050735f6384dfc75e99efea08c7f52fc29a3c03eb056de2aeac", func := "shapesearch/shapesearchlaw07.CleanTurned", spec := "cleanTurned", unfollowed := true, recurses := true, apart := false, narrowed := true }
def CleanTurnedUptoSaid : Prop := cleanTurnedUptoRow.holds Try.pinned (OpenSpec.upto cleanTurnedSpec)

/-- 'shapesearchlaw07.CleanRepeats', WHERE WHAT IT READS IS OF BULK AT MOST 1048576: true; the input reads as it did. -/
def cleanRepeatsUptoRow : OpenClaim := { program := "ytgcjangnlbhicaa", sum := "e352b4b308d75050735f6384dfc75e99efea08c7f52fc29a3c03eb056de2aeac", func := "shapesearch/shapesearchlaw07.CleanRepeats", spec := "cleanRepeats", unfollowed := true, recurses := true, apart := false, narrowed := true }
def CleanRepeatsUptoSaid : Prop := cleanRepeatsUptoRow.holds Try.pinned (OpenSpec.upto cleanRepeatsSpec)

/-- 'shapesearchlaw07.CleanSources', WHERE WHAT IT READS IS OF BULK AT MOST 1048576: true; the input reads as it did. -/
def cleanSourcesUptoRow : OpenClaim := { program := "ytgcjangnlbhicaa", sum := "e352b4b308d75050735f6384dfc75e99efea08c7f52fc29a3c03eb056de2aeac", func := "shapesearch/shapesearchlaw07.CleanSources", spec := "cleanSources", unfollowed := true, recurses := true, apart := false, narrowed := true }
def CleanSourcesUptoSaid : Prop := cleanSourcesUptoRow.holds Try.pinned (OpenSpec.upto cleanSourcesSpec)

/-- 'shapesearchlaw07.CleanBetween', WHERE WHAT IT READS IS OF BULK AT MOST 1048576: true; the input reads as it did. -/
def cleanBetweenUptoRow : OpenClaim := { program := "ytgcjangnlbhicaa", sum := "e352b4b308d75050735f6384dfc75e99efea08c7f52fc29a3c03eb056de2aeac", func := "shapesearch/shapesearchlaw07.CleanBetween", spec := "cleanBetween", unfollowed := true, recurses := true, apart := false, narrowed := true }
def CleanBetweenUptoSaid : Prop := cleanBetweenUptoRow.holds Try.pinned (OpenSpec.upto cleanBetweenSpec)

/-- 'shapesearchlaw07.CleanOnce', WHERE WHAT IT READS IS OF BULK AT MOST 1048576: true; the input reads as it did. -/
def cleanOnceUptoRow : OpenClaim := { program := "ytgcjangnlbhicaa", sum := "e352b4b308d75050735f6384dfc75e99efea08c7f52fc29a3c03eb056de2aeac", func := "shapesearch/shapesearchlaw07.CleanOnce", spec := "cleanOnce", unfollowed := true, recurses := true, apart := false, narrowed := true }
def CleanOnceUptoSaid : Prop := cleanOnceUptoRow.holds Try.pinned (OpenSpec.upto cleanOnceSpec)

end Rows
end Go.Proofs.Ytgcjangnlbhicaa
