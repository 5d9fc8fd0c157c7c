/- Small facts of the walk of symMergeCmpFunc. -/
import Derived.Test.YtgcjangnlbhicaaStI
import Derived.Test.YtgcjangnlbhicaaStR
namespace Go.Proofs.Ytgcjangnlbhicaa.St
open Go.ChangeShapes Go.WideShapes Go.RowKit Wo Sr Wi Rm Rg
theorem cm3 (x y : Int) : cm x y = -1 ∨ cm x y = 0 ∨ cm x y = 1 := by unfold cm; split <;> (try split) <;> simp
theorem half_nat {i j h : Nat} (e : (i + j) / 2 = h) (hij : i < j) : i ≤ h ∧ h < j := by omega
end Go.Proofs.Ytgcjangnlbhicaa.St
