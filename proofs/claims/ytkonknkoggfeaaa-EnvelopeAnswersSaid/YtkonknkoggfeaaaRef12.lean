/- The contract of shapesearchref12.Distance over two windows of one length. -/
import Derived.Test.YtkonknkoggfeaaaRef12c
namespace Go.Proofs.Ytkonknkoggfeaaa.R12
open Go.ChangeShapes Go.WideShapes Go.RowKit Wo Sr Wi
set_option linter.unusedVariables false
end Go.Proofs.Ytkonknkoggfeaaa.R12
