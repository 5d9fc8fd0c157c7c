/- measure.Check of valid measures. -/
import Derived.Test.YtgdhgeongdenpaaNear
namespace Go.Proofs.Ytgdhgeongdenpaa.Ms
open Go.ChangeShapes Go.WideShapes Go.RowKit Wo Sr Wi
set_option linter.unusedVariables false
/-- a valid measure -/
def Mv (k b g : Int) : Prop := ((k = 1 ∨ k = 2 ∨ k = 3) ∧ b = 0 ∧ g = 0) ∨ (k = 4 ∧ 0 ≤ b ∧ b ≤ 32 ∧ g = 0) ∨ (k = 5 ∧ b = 0 ∧ -1000 ≤ g ∧ g ≤ 1000)
set_option maxHeartbeats 2000000 in
set_option maxRecDepth 100000 in
theorem check_ok (k b g : Int) (h : Mv k b g) (w : World) : Calls Try.prog 84 #[.agg #[.int .i64 k, .int .i64 b, .int .i64 g]] w fun e w' => e = .returned (.int .i64 0) ∧ Bel w w' := by
  rcases h with ⟨rfl | rfl | rfl, rfl, rfl⟩ | ⟨rfl, h0, h1, rfl⟩ | ⟨rfl, rfl, h0, h1⟩
  · go_enter Try.func84, Try.ntmps84
    go_wp2
    go_ret
    exact ⟨rfl, Bel.rf.al _⟩
  · go_enter Try.func84, Try.ntmps84
    go_wp2
    go_ret
    exact ⟨rfl, Bel.rf.al _⟩
  · go_enter Try.func84, Try.ntmps84
    go_wp2
    go_ret
    exact ⟨rfl, Bel.rf.al _⟩
  · go_enter Try.func84, Try.ntmps84
    go_wp2
    go_ret
    exact ⟨rfl, Bel.rf.al _⟩
  · have SO : Hid (∀ W, _) := fun W => sample_ok g h0 h1 W
    go_enter Try.func84, Try.ntmps84
    go_wp2_with (go_at_call 87; refine (SO.out _).mono ?_; rintro e w1 ⟨rfl, rfl⟩)
    go_ret
    exact ⟨rfl, Bel.rf.al _⟩
end Go.Proofs.Ytgdhgeongdenpaa.Ms
