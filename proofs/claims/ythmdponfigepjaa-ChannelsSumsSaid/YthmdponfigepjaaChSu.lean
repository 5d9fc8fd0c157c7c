/- One channel of a bundle, taken alone. -/
import Derived.Test.YthmdponfigepjaaChQo
import Derived.Test.YthmdponfigepjaaChEo
import Derived.Test.YthmdponfigepjaaChEs
import Derived.Test.YthmdponfigepjaaChZ
namespace Go.Proofs.Ythmdponfigepjaa.Ch
open Go.ChangeShapes Go.WideShapes Go.RowKit Wo Sr Wi Nr Ra Eu
set_option linter.unusedVariables false
theorem bun_sing {w : World} {g q n : Nat} {As : Nat → Option Addr} {cs : Nat → Nat} {Ls : Nat → List Int} (h : Bun w g q n As cs Ls) (t : Nat) (ht : t < q) : Co.Bun w g t 1 n (fun _ => As t) (fun _ => cs t) (fun _ => Ls t) :=
  ⟨h.1, fun j hj => by
    obtain rfl : j = 0 := by omega
    exact h.2 t ht⟩
theorem aps_sing (b : Int) (n m : Nat) (L M : List Int) : aps b n m (fun _ => L) (fun _ => M) 1 = wg (cst L M) b n m := Int.zero_add _
theorem es_sing (L M : List Int) : es (fun _ => L) (fun _ => M) 1 = su sq (df L M) := Int.zero_add _
end Go.Proofs.Ythmdponfigepjaa.Ch
