/- cuts of walks. -/
import Derived.Deep.DeepCutAuto
import Derived.Deep.CutBlock
import Derived.Deep.CutRange
namespace Go.Proofs.Ytgdhgeongdenpaa.Wd
end Go.Proofs.Ytgdhgeongdenpaa.Wd
