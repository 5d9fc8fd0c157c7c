/-
  No cell of these rows narrows 'for every input' (looked for: loops, veiled, ifaces, maps, wideKeys, modest, calm, conditions, laid).
  DERIVED. THE GIVEN ROWS OF THIS SEAT. 10 by the template 'for every input the law returns true; each argument reads behind the call as it read before'; 0 by the template 'total and deterministic' (their statements: YtiinoiookdhibaaTotals.lean).
  GIVEN WITH THE SEED: the statements are not yours to turn. If you find one false, say at which input.
  Laid BY PROGRAM, IN A SANDBOX (cutbox-rows.mjs): the forced cells as the released guide's own fill.sh prints them over the translation 54224d4d782163d0… (all of the seat's roots in one cut). By AI agents, Wed Nov 11 2026. No macro, syntax, notation, axiom, sorry.
-/
import Derived.Test.YtiinoiookdhibaaChecked
import GoSem.Claim
import GoSem.ClaimJoined
import GoSem.ClaimMapViews
import Derived.JoinedTies
import Derived.KernelRfl
namespace Go.Proofs.Ytiinoiookdhibaa
/- THE CELL 'sum', in the pinned program and in every row, IS THE sha256 OF THE DUMP (.gsa) THAT YtiinoiookdhibaaProg.lean LOADS. Nothing in Lean hashes anything: it is a label: what it is worth is what the hold of that sum in a sandbox is worth. -/
noncomputable def Try.pinned : Pinned := { name := "ytiinoiookdhibaa", sum := "54224d4d782163d0db92efec81959f77586003602b0afaceef86389c78f335d3", checked := Try.checked }
namespace Rows
def none {H : Type} : Left H := { results := [], args := [] }

/-- 'shapesearchlaw16.ChannelsPaths': WHATEVER THE INPUT: true; the input reads as it did. -/
def channelsPathsSpec : ChangeSpec := { name := "channelsPaths", fn := fun _ => fun
  | [d] => { results := [.lit (.bool true)], args := [d] }
  | _ => none }
def channelsPathsRow : OpenClaim := { program := "ytiinoiookdhibaa", sum := "54224d4d782163d0db92efec81959f77586003602b0afaceef86389c78f335d3", func := "shapesearch/shapesearchlaw16.ChannelsPaths", spec := "channelsPaths", unfollowed := true, recurses := true, apart := false }
def ChannelsPathsSaid : Prop := channelsPathsRow.holds Try.pinned (OpenSpec.ofChange channelsPathsSpec)

/-- ITS FALSE NEIGHBOUR: 'it returns false'. Refute it at one input. -/
def channelsPathsWrong : ChangeSpec := { name := "channelsPaths", fn := fun _ => fun
  | [d] => { results := [.lit (.bool false)], args := [d] }
  | _ => none }
def ChannelsPathsWrongFalsely : Prop := channelsPathsRow.holds Try.pinned (OpenSpec.ofChange channelsPathsWrong)

/-- 'shapesearchlaw16.ChannelsOrder': WHATEVER THE INPUT: true; the input reads as it did. -/
def channelsOrderSpec : ChangeSpec := { name := "channelsOrder", fn := fun _ => fun
  | [d1, d2] => { results := [.lit (.bool true)], args := [d1, d2] }
  | _ => none }
def channelsOrderRow : OpenClaim := { program := "ytiinoiookdhibaa", sum := "54224d4d782163d0db92efec81959f77586003602b0afaceef86389c78f335d3", func := "shapesearch/shapesearchlaw16.ChannelsOrder", spec := "channelsOrder", unfollowed := true, recurses := true, apart := false }
def ChannelsOrderSaid : Prop := channelsOrderRow.holds Try.pinned (OpenSpec.ofChange channelsOrderSpec)

/-- ITS FALSE NEIGHBOUR: 'it returns false'. Refute it at one input. -/
def channelsOrderWrong : ChangeSpec := { name := "channelsOrder", fn := fun _ => fun
  | [d1, d2] => { results := [.lit (.bool false)], args := [d1, d2] }
  | _ => none }
def ChannelsOrderWrongFalsely : Prop := channelsOrderRow.holds Try.pinned (OpenSpec.ofChange channelsOrderWrong)

/-- 'shapesearchlaw16.ChannelsMore': WHATEVER THE INPUT: true; the input reads as it did. -/
def channelsMoreSpec : ChangeSpec := { name := "channelsMore", fn := fun _ => fun
  | [d] => { results := [.lit (.bool true)], args := [d] }
  | _ => none }
def channelsMoreRow : OpenClaim := { program := "ytiinoiookdhibaa", sum := "54224d4d782163d0db92efec81959f77586003602b0afaceef86389c78f335d3", func := "shapesearch/shapesearchlaw16.ChannelsMore", spec := "channelsMore", unfollowed := true, recurses := true, apart := false }
def ChannelsMoreSaid : Prop := channelsMoreRow.holds Try.pinned (OpenSpec.ofChange channelsMoreSpec)

/-- ITS FALSE NEIGHBOUR: 'it returns false'. Refute it at one input. -/
def channelsMoreWrong : ChangeSpec := { name := "channelsMore", fn := fun _ => fun
  | [d] => { results := [.lit (.bool false)], args := [d] }
  | _ => none }
def ChannelsMoreWrongFalsely : Prop := channelsMoreRow.holds Try.pinned (OpenSpec.ofChange channelsMoreWrong)

/-- 'shapesearchlaw16.ChannelsGreatest': WHATEVER THE INPUT: true; the input reads as it did. -/
def channelsGreatestSpec : ChangeSpec := { name := "channelsGreatest", fn := fun _ => fun
  | [d] => { results := [.lit (.bool true)], args := [d] }
  | _ => none }
def channelsGreatestRow : OpenClaim := { program := "ytiinoiookdhibaa", sum := "54224d4d782163d0db92efec81959f77586003602b0afaceef86389c78f335d3", func := "shapesearch/shapesearchlaw16.ChannelsGreatest", spec := "channelsGreatest", unfollowed := true, recurses := true, apart := false }
def ChannelsGreatestSaid : Prop := channelsGreatestRow.holds Try.pinned (OpenSpec.ofChange channelsGreatestSpec)

/-- ITS FALSE NEIGHBOUR: 'it returns false'. Refute it at one input. -/
def channelsGreatestWrong : ChangeSpec := { name := "channelsGreatest", fn := fun _ => fun
  | [d] => { results := [.lit (.bool false)], args := [d] }
  | _ => none }
def ChannelsGreatestWrongFalsely : Prop := channelsGreatestRow.holds Try.pinned (OpenSpec.ofChange channelsGreatestWrong)

/-- 'shapesearchlaw16.ChannelsSums': WHATEVER THE INPUT: true; the input reads as it did. -/
def channelsSumsSpec : ChangeSpec := { name := "channelsSums", fn := fun _ => fun
  | [d] => { results := [.lit (.bool true)], args := [d] }
  | _ => none }
def channelsSumsRow : OpenClaim := { program := "ytiinoiookdhibaa", sum := "54224d4d782163d0db92efec81959f77586003602b0afaceef86389c78f335d3", func := "shapesearch/shapesearchlaw16.ChannelsSums", spec := "channelsSums", unfollowed := true, recurses := true, apart := false }
def ChannelsSumsSaid : Prop := channelsSumsRow.holds Try.pinned (OpenSpec.ofChange channelsSumsSpec)

/-- ITS FALSE NEIGHBOUR: 'it returns false'. Refute it at one input. -/
def channelsSumsWrong : ChangeSpec := { name := "channelsSums", fn := fun _ => fun
  | [d] => { results := [.lit (.bool false)], args := [d] }
  | _ => none }
def ChannelsSumsWrongFalsely : Prop := channelsSumsRow.holds Try.pinned (OpenSpec.ofChange channelsSumsWrong)

/-- 'shapesearchlaw20.EnvelopeHolds': WHATEVER THE INPUT: true; the input reads as it did. -/
def envelopeHoldsSpec : ChangeSpec := { name := "envelopeHolds", fn := fun _ => fun
  | [d1, d2] => { results := [.lit (.bool true)], args := [d1, d2] }
  | _ => none }
def envelopeHoldsRow : OpenClaim := { program := "ytiinoiookdhibaa", sum := "54224d4d782163d0db92efec81959f77586003602b0afaceef86389c78f335d3", func := "shapesearch/shapesearchlaw20.EnvelopeHolds", spec := "envelopeHolds", inPlace := ["math/bits.Add64"], unfollowed := true, recurses := true, named := ["math/bits.divideError", "math/bits.overflowError"], apart := false }
def EnvelopeHoldsSaid : Prop := envelopeHoldsRow.holds Try.pinned (OpenSpec.ofChange envelopeHoldsSpec)

/-- ITS FALSE NEIGHBOUR: 'it returns false'. Refute it at one input. -/
def envelopeHoldsWrong : ChangeSpec := { name := "envelopeHolds", fn := fun _ => fun
  | [d1, d2] => { results := [.lit (.bool false)], args := [d1, d2] }
  | _ => none }
def EnvelopeHoldsWrongFalsely : Prop := envelopeHoldsRow.holds Try.pinned (OpenSpec.ofChange envelopeHoldsWrong)

/-- 'shapesearchlaw20.EnvelopeNests': WHATEVER THE INPUT: true; the input reads as it did. -/
def envelopeNestsSpec : ChangeSpec := { name := "envelopeNests", fn := fun _ => fun
  | [d1, d2] => { results := [.lit (.bool true)], args := [d1, d2] }
  | _ => none }
def envelopeNestsRow : OpenClaim := { program := "ytiinoiookdhibaa", sum := "54224d4d782163d0db92efec81959f77586003602b0afaceef86389c78f335d3", func := "shapesearch/shapesearchlaw20.EnvelopeNests", spec := "envelopeNests", inPlace := ["math/bits.Add64"], unfollowed := true, recurses := true, named := ["math/bits.divideError", "math/bits.overflowError"], apart := false }
def EnvelopeNestsSaid : Prop := envelopeNestsRow.holds Try.pinned (OpenSpec.ofChange envelopeNestsSpec)

/-- ITS FALSE NEIGHBOUR: 'it returns false'. Refute it at one input. -/
def envelopeNestsWrong : ChangeSpec := { name := "envelopeNests", fn := fun _ => fun
  | [d1, d2] => { results := [.lit (.bool false)], args := [d1, d2] }
  | _ => none }
def EnvelopeNestsWrongFalsely : Prop := envelopeNestsRow.holds Try.pinned (OpenSpec.ofChange envelopeNestsWrong)

/-- 'shapesearchlaw20.EnvelopeMoves': WHATEVER THE INPUT: true; the input reads as it did. -/
def envelopeMovesSpec : ChangeSpec := { name := "envelopeMoves", fn := fun _ => fun
  | [d1, d2] => { results := [.lit (.bool true)], args := [d1, d2] }
  | _ => none }
def envelopeMovesRow : OpenClaim := { program := "ytiinoiookdhibaa", sum := "54224d4d782163d0db92efec81959f77586003602b0afaceef86389c78f335d3", func := "shapesearch/shapesearchlaw20.EnvelopeMoves", spec := "envelopeMoves", inPlace := ["math/bits.Add64"], unfollowed := true, recurses := true, named := ["math/bits.divideError", "math/bits.overflowError"], apart := false }
def EnvelopeMovesSaid : Prop := envelopeMovesRow.holds Try.pinned (OpenSpec.ofChange envelopeMovesSpec)

/-- ITS FALSE NEIGHBOUR: 'it returns false'. Refute it at one input. -/
def envelopeMovesWrong : ChangeSpec := { name := "envelopeMoves", fn := fun _ => fun
  | [d1, d2] => { results := [.lit (.bool false)], args := [d1, d2] }
  | _ => none }
def EnvelopeMovesWrongFalsely : Prop := envelopeMovesRow.holds Try.pinned (OpenSpec.ofChange envelopeMovesWrong)

/-- 'shapesearchlaw20.EnvelopeCascade': WHATEVER THE INPUT: true; the input reads as it did. -/
def envelopeCascadeSpec : ChangeSpec := { name := "envelopeCascade", fn := fun _ => fun
  | [d] => { results := [.lit (.bool true)], args := [d] }
  | _ => none }
def envelopeCascadeRow : OpenClaim := { program := "ytiinoiookdhibaa", sum := "54224d4d782163d0db92efec81959f77586003602b0afaceef86389c78f335d3", func := "shapesearch/shapesearchlaw20.EnvelopeCascade", spec := "envelopeCascade", inPlace := ["math/bits.Add64"], unfollowed := true, recurses := true, named := ["math/bits.divideError", "math/bits.overflowError"], apart := false }
def EnvelopeCascadeSaid : Prop := envelopeCascadeRow.holds Try.pinned (OpenSpec.ofChange envelopeCascadeSpec)

/-- ITS FALSE NEIGHBOUR: 'it returns false'. Refute it at one input. -/
def envelopeCascadeWrong : ChangeSpec := { name := "envelopeCascade", fn := fun _ => fun
  | [d] => { results := [.lit (.bool false)], args := [d] }
  | _ => none }
def EnvelopeCascadeWrongFalsely : Prop := envelopeCascadeRow.holds Try.pinned (OpenSpec.ofChange envelopeCascadeWrong)

/-- 'shapesearchlaw20.EnvelopeBands': WHATEVER THE INPUT: true; the input reads as it did. -/
def envelopeBandsSpec : ChangeSpec := { name := "envelopeBands", fn := fun _ => fun
  | [d1, d2] => { results := [.lit (.bool true)], args := [d1, d2] }
  | _ => none }
def envelopeBandsRow : OpenClaim := { program := "ytiinoiookdhibaa", sum := "54224d4d782163d0db92efec81959f77586003602b0afaceef86389c78f335d3", func := "shapesearch/shapesearchlaw20.EnvelopeBands", spec := "envelopeBands", inPlace := ["math/bits.Add64"], unfollowed := true, recurses := true, named := ["math/bits.divideError", "math/bits.overflowError"], apart := false }
def EnvelopeBandsSaid : Prop := envelopeBandsRow.holds Try.pinned (OpenSpec.ofChange envelopeBandsSpec)

/-- ITS FALSE NEIGHBOUR: 'it returns false'. Refute it at one input. -/
def envelopeBandsWrong : ChangeSpec := { name := "envelopeBands", fn := fun _ => fun
  | [d1, d2] => { results := [.lit (.bool false)], args := [d1, d2] }
  | _ => none }
def EnvelopeBandsWrongFalsely : Prop := envelopeBandsRow.holds Try.pinned (OpenSpec.ofChange envelopeBandsWrong)

/- THE SECOND FORM. 'bulk': how many values and letters a reading holds, each counted each time it is reached (what is shared counts as often as it is met; a slice's spare places count too). A statement '..UptoSaid' is the law's where the arguments, and the package variables that the reading takes, are together of bulk at most 1048576: NARROWER than '..Said'. Prove '..Said' where nothing that the law and all that it calls make is longer than what came in: it says more and counts as full. Else prove '..UptoSaid'. A law counts once. -/
mutual
def uptoBulk {H : Type} : DataW H → Nat
  | .lit (.string bytes) => bytes.length + 1
  | .lit _ => 1
  | .nil => 1
  | .ptr d => uptoBulk d + 1
  | .slice elems spare => uptoBulkAll elems + uptoBulkAll spare + 1
  | .agg parts => uptoBulkAll parts + 1
  | .iface _ d => uptoBulk d + 1
  | .map entries => uptoBulkEntries entries + 1
  | .held _ => 1
def uptoBulkAll {H : Type} : List (DataW H) → Nat
  | [] => 0
  | d :: r => uptoBulk d + uptoBulkAll r
def uptoBulkEntries {H : Type} : List (Lit × DataW H) → Nat
  | [] => 0
  | x :: r => uptoBulkEntry x + uptoBulkEntries r
def uptoBulkEntry {H : Type} : Lit × DataW H → Nat
  | (.string bytes, d) => bytes.length + uptoBulk d + 1
  | (_, d) => uptoBulk d + 1
 end
def uptoSmall : (H : Type) → List (DataW H) → Bool := fun _ ds => decide (uptoBulkAll ds ≤ 1048576)
def OpenSpec.upto (s : _root_.Go.ChangeSpec) : _root_.Go.OpenSpec := { _root_.Go.OpenSpec.ofChange s with cond := some uptoSmall }

/-- 'shapesearchlaw16.ChannelsPaths', WHERE WHAT IT READS IS OF BULK AT MOST 1048576: true; the input reads as it did. -/
def channelsPathsUptoRow : OpenClaim := { program := "ytiinoiookdhibaa", sum := "54224d4d782163d0db92efec81959f77586003602b0afaceef86389c78f335d3", func := "shapesearch/shapesearchlaw16.ChannelsPaths", spec := "channelsPaths", unfollowed := true, recurses := true, apart := false, narrowed := true }
def ChannelsPathsUptoSaid : Prop := channelsPathsUptoRow.holds Try.pinned (OpenSpec.upto channelsPathsSpec)

/-- 'shapesearchlaw16.ChannelsOrder', WHERE WHAT IT READS IS OF BULK AT MOST 1048576: true; the input reads as it did. -/
def channelsOrderUptoRow : OpenClaim := { program := "ytiinoiookdhibaa", sum := "54224d4d782163d0db92efec81959f77586003602b0afaceef86389c78f335d3", func := "shapesearch/shapesearchlaw16.ChannelsOrder", spec := "channelsOrder", unfollowed := true, recurses := true, apart := false, narrowed := true }
def ChannelsOrderUptoSaid : Prop := channelsOrderUptoRow.holds Try.pinned (OpenSpec.upto channelsOrderSpec)

/-- 'shapesearchlaw16.ChannelsMore', WHERE WHAT IT READS IS OF BULK AT MOST 1048576: true; the input reads as it did. -/
def channelsMoreUptoRow : OpenClaim := { program := "ytiinoiookdhibaa", sum := "54224d4d782163d0db92efec81959f77586003602b0afaceef86389c78f335d3", func := "shapesearch/shapesearchlaw16.ChannelsMore", spec := "channelsMore", unfollowed := true, recurses := true, apart := false, narrowed := true }
def ChannelsMoreUptoSaid : Prop := channelsMoreUptoRow.holds Try.pinned (OpenSpec.upto channelsMoreSpec)

/-- 'shapesearchlaw16.ChannelsGreatest', WHERE WHAT IT READS IS OF BULK AT MOST 1048576: true; the input reads as it did. -/
def channelsGreatestUptoRow : OpenClaim := { program := "ytiinoiookdhibaa", sum := "54224d4d782163d0db92efec81959f77586003602b0afaceef86389c78f335d3", func := "shapesearch/shapesearchlaw16.ChannelsGreatest", spec := "channelsGreatest", unfollowed := true, recurses := true, apart := false, narrowed := true }
def ChannelsGreatestUptoSaid : Prop := channelsGreatestUptoRow.holds Try.pinned (OpenSpec.upto channelsGreatestSpec)

/-- 'shapesearchlaw16.ChannelsSums', WHERE WHAT IT READS IS OF BULK AT MOST 1048576: true; the input reads as it did. -/
def channelsSumsUptoRow : OpenClaim := { program := "ytiinoiookdhibaa", sum := "54224d4d782163d0db92efec81959f77586003602b0afaceef86389c78f335d3", func := "shapesearch/shapesearchlaw16.ChannelsSums", spec := "channelsSums", unfollowed := true, recurses := true, apart := false, narrowed := true }
def ChannelsSumsUptoSaid : Prop := channelsSumsUptoRow.holds Try.pinned (OpenSpec.upto channelsSumsSpec)

/-- 'shapesearchlaw20.EnvelopeHolds', WHERE WHAT IT READS IS OF BULK AT MOST 1048576: true; the input reads as it did. -/
def envelopeHoldsUptoRow : OpenClaim := { program := "ytiinoiookdhibaa", sum := "54224d4d782163d0db92efec81959f77586003602b0afaceef86389c78f335d3", func := "shapesearch/shapesearchlaw20.EnvelopeHolds", spec := "envelopeHolds", inPlace := ["math/bits.Add64"], unfollowed := true, recurses := true, named := ["math/bits.divideError", "math/bits.overflowError"], apart := false, narrowed := true }
def EnvelopeHoldsUptoSaid : Prop := envelopeHoldsUptoRow.holds Try.pinned (OpenSpec.upto envelopeHoldsSpec)

/-- 'shapesearchlaw20.EnvelopeNests', WHERE WHAT IT READS IS OF BULK AT MOST 1048576: true; the input reads as it did. -/
def envelopeNestsUptoRow : OpenClaim := { program := "ytiinoiookdhibaa", sum := "54224d4d782163d0db92efec81959f77586003602b0afaceef86389c78f335d3", func := "shapesearch/shapesearchlaw20.EnvelopeNests", spec := "envelopeNests", inPlace := ["math/bits.Add64"], unfollowed := true, recurses := true, named := ["math/bits.divideError", "math/bits.overflowError"], apart := false, narrowed := true }
def EnvelopeNestsUptoSaid : Prop := envelopeNestsUptoRow.holds Try.pinned (OpenSpec.upto envelopeNestsSpec)

/-- 'shapesearchlaw20.EnvelopeMoves', WHERE WHAT IT READS IS OF BULK AT MOST 1048576: true; the input reads as it did. -/
def envelopeMovesUptoRow : OpenClaim := { program := "ytiinoiookdhibaa", sum := "54224d4d782163d0db92efec81959f77586003602b0afaceef86389c78f335d3", func := "shapesearch/shapesearchlaw20.EnvelopeMoves", spec := "envelopeMoves", inPlace := ["math/bits.Add64"], unfollowed := true, recurses := true, named := ["math/bits.divideError", "math/bits.overflowError"], apart := false, narrowed := true }
def EnvelopeMovesUptoSaid : Prop := envelopeMovesUptoRow.holds Try.pinned (OpenSpec.upto envelopeMovesSpec)

/-- 'shapesearchlaw20.EnvelopeCascade', WHERE WHAT IT READS IS OF BULK AT MOST 1048576: true; the input reads as it did. -/
def envelopeCascadeUptoRow : OpenClaim := { program := "ytiinoiookdhibaa", sum := "54224d4d782163d0db92efec81959f77586003602b0afaceef86389c78f335d3", func := "shapesearch/shapesearchlaw20.EnvelopeCascade", spec := "envelopeCascade", inPlace := ["math/bits.Add64"], unfollowed := true, recurses := true, named := ["math/bits.divideError", "math/bits.overflowError"], apart := false, narrowed := true }
def EnvelopeCascadeUptoSaid : Prop := envelopeCascadeUptoRow.holds Try.pinned (OpenSpec.upto envelopeCascadeSpec)

/-- 'shapesearchlaw20.EnvelopeBands', WHERE WHAT IT READS IS OF BULK AT MOST 1048576: true; the input reads as it did. -/
def envelopeBandsUptoRow : OpenClaim := { program := "ytiinoiookdhibaa", sum := "54224d4d782163d0db92efec81959f77586003602b0afaceef86389c78f335d3", func := "shapesearch/shapesearchlaw20.EnvelopeBands", spec := "envelopeBands", inPlace := ["math/bits.Add64"], unfollowed := true, recurses := true, named := ["math/bits.divideError", "math/bits.overflowError"], apart := false, narrowed := true }
def EnvelopeBandsUptoSaid : Prop := envelopeBandsUptoRow.holds Try.pinned (OpenSpec.upto envelopeBandsSpec)

end Rows
end Go.Proofs.Ytiinoiookdhibaa
