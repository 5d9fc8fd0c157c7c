/- The variance of a list of samples, as window.Variance returns it. -/
import Derived.Test.YtiomiohdeghpiaaWinStats
import Derived.Deep.RegionHeld3
namespace Go.Proofs.Ytiomiohdeghpiaa.Wi
open Go.ChangeShapes Go.WideShapes Go.RowKit Wo Sr
set_option linter.unusedVariables false
theorem var_of (P : List Int) (hs : Sam P) (k : Nat) (hl : P.length = k) (h0 : 1 ≤ k) (h1 : k ≤ 2000) (x y v : Int) (hx : su ix P = x) (hy : su sq P = y) (hv : vr P = v) (W : World) :
    Calls Try.prog 24 #[.agg #[.int .i64 (k : Int), .int .i64 x, .int .i64 y]] W fun e w' => e = .returned (.int .i64 v) ∧ Bel W w' := by
  subst hl hx hy hv
  exact vari_ok P.length (su ix P) (su sq P) h0 h1 (su_in hs).1 (su_in hs).2 (sq_su_in hs).1 (sq_su_in hs).2 (vr P) rfl (vr_nn P) W
theorem vr_in {P : List Int} (hs : Sam P) (h : P.length ≤ 2000) : 0 ≤ vr P ∧ vr P ≤ 4000000000000 := by
  refine ⟨vr_nn P, ?_⟩
  have a := sq_su_in hs
  have b := sq_nn (su ix P)
  have c : (P.length : Int) * su sq P ≤ 2000 * 2000000000 := Int.mul_le_mul (by omega) (by omega) a.1 (by omega)
  unfold vr
  omega
end Go.Proofs.Ytiomiohdeghpiaa.Wi
