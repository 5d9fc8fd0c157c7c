/- The contracts of whole.Fold and Unfold. -/
import Derived.Test.YtaplbkfmedofcaaRows
import Derived.Test.YtaplbkfmedofcaaWords
import Derived.Test.YtaplbkfmedofcaaBitMath
import Derived.Test.YtaplbkfmedofcaaIntMath
import Derived.WalkLawsBesides
import Derived.WalkSpells
import Derived.Outline
import Derived.IntWalk
import Derived.Deep.QuietTactic
import Derived.BigQuiet
import Derived.RegionTactic
namespace Go.Proofs.Ytaplbkfmedofcaa.Cd
open Go.ChangeShapes Go.WideShapes Go.RowKit Wo Bm
set_option linter.unusedVariables false
theorem fold_any (n : Int) (h0 : -9223372036854775808 ≤ n) (h1 : n ≤ 9223372036854775807) (w : World) :
    Calls Try.prog 46 #[.int .i64 n] w fun e w' => e = .returned (.int .u64 (fld n : Int)) ∧ w = w' := by
  have HF : Hid (bits .xor .u64 (IntKind.u64.wrap (IntKind.u64.wrap n * 2)) (IntKind.u64.wrap (n / 9223372036854775808)) = (fld n : Int)) := by
    show bits _ _ _ _ = _
    rcases Int.lt_or_le n 0 with h | h
    · rw [fold_neg h h0]; unfold fld; rw [if_neg (by omega)]; omega
    · rw [fold_pos h h1]; unfold fld; rw [if_pos h]; omega
  go_enter Try.func46, Try.ntmps46
  go_wp2
  go_ret
  exact ⟨ret_int HF.out, rfl⟩
theorem unfold_any (u : Nat) (h1 : u < 18446744073709551616) (w : World) :
    Calls Try.prog 57 #[.int .u64 (u : Int)] w fun e w' => e = .returned (.int .i64 (unf u)) ∧ w = w' := by
  have HA := Lib.hid (and1_u64 h1)
  go_enter Try.func57, Try.ntmps57
  go_wp2
  go_ret
  refine ⟨ret_int ?_, rfl⟩
  rw [HA.out, show (u : Int) / 2 = ((u / 2 : Nat) : Int) by omega]
  unfold unf
  rcases Nat.mod_two_eq_zero_or_one u with h | h
  · rw [h, if_pos rfl, show wrap64 (-wrap64 ((0 : Nat) : Int)) = 0 by decide +kernel]
    exact unfold_even (a := u / 2) (by omega)
  · rw [h, if_neg (by decide), show wrap64 (-wrap64 ((1 : Nat) : Int)) = -1 by decide +kernel]
    exact unfold_odd (a := u / 2) (by omega)
end Go.Proofs.Ytaplbkfmedofcaa.Cd
