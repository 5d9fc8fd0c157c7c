/- The contract of ratio.Less: whether Cmp is negative. -/
import Derived.Test.YtabmpnmhjdbdmaaGreatDoorRatioCmpP
namespace Go.Proofs.YtabmpnmhjdbdmaaGreatDoor.Ra
open Go.ChangeShapes Go.WideShapes Go.RowKit Wo
set_option linter.unusedVariables false
theorem less_as (n d m e k : Int) (b : Bool) (hk : rcmp n d m e = k) (hb : decide (k < 0) = b) (w : World) :
    Calls Tryz.prog 19 #[.agg #[.int .i64 n, .int .i64 d], .agg #[.int .i64 m, .int .i64 e]] w fun r w' => r = .returned (.bool b) ∧ Bel w w' := by
  have HC := Lib.hid (cmp_any n d m e)
  rw [hk] at HC
  clear hk
  have HB := Lib.hid hb
  clear hb
  go_enter Tryz.func19, Tryz.ntmps19
  go_wp2_with (go_at_call 40; refine (HC.out _).mono ?_; rintro r w1 ⟨rfl, hb1⟩)
  go_ret
  exact ⟨ret_bool HB.out, (by repeat (first | exact Bel.rf | (with_reducible refine Bel.drwN ?_ _) | (with_reducible refine Bel.drw ?_) | (with_reducible refine Bel.al ?_ _) | ((with_reducible refine Bel.st2 ?_ ?_ _); (show _ ≤ _); (simp only []; omega)) | refine Bel.tr ?_ (by assumption)))⟩
end Go.Proofs.YtabmpnmhjdbdmaaGreatDoor.Ra
