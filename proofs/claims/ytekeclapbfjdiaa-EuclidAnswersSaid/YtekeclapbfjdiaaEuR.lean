/- euclid.Shifted and the reference's, of any lists; keep's Bent of a list without numbers. -/
import Derived.Test.YtekeclapbfjdiaaEuQ
import Derived.Test.YtekeclapbfjdiaaRefMs
namespace Go.Proofs.Ytekeclapbfjdiaa.Say
open Go.ChangeShapes Go.WideShapes Go.RowKit Wo Sr Wi Ra Eu R12
set_option linter.unusedVariables false
/-- euclid.Shifted and the reference's, of any lists -/
theorem both_shift (A A' : Option Addr) (c c' n m : Nat) (L M : List Int) (hn : n ≤ 100000000) (hm : m ≤ 100000000) : ∃ X Y E : Int,
    (∀ w, Zi w A n L → Zi w A' m M → Calls Try.prog 13 #[.slice A n c, .slice A' m c'] w fun e w' => e = .returned (.tuple #[.agg #[.int .i64 X, .int .i64 Y], .int .i64 E]) ∧ Bel w w') ∧
    (∀ w, Zi w A n L → Zi w A' m M → Calls Try.prog 14 #[.slice A n c, .slice A' m c'] w fun e w' => e = .returned (.tuple #[.agg #[.int .i64 X, .int .i64 Y], .int .i64 E]) ∧ Bel w w') := by
  rcases Classical.em (two n m L M 0 = 0) with h | h
  · obtain ⟨h1, h2, h3, h4, h5, h6⟩ := two_yes h
    obtain rfl : n = m := by omega
    have i2 : (n : Int) ≤ 32 := by have := h1.2; omega
    have i1 : 2 ≤ (n : Int) := by have := h1.1; omega
    refine ⟨_, _, 0, fun w k1 k2 => shifted_ok A A' c c' n L M h1.1 h1.2 h3 h4 w k1 k2, fun w k1 k2 => ?_⟩
    have hlen : L.length = M.length := by rw [k1.1, k2.1]
    have bD := df_bd (A := 1000) (B := 1000) h3 h4
    have dl : ((df L M).length : Int) = (n : Int) := by rw [df_len hlen, k1.1]
    have q1 := susq_bd bD
    rw [dl] at q1
    have hv := vr_nn (df L M)
    have hve : vr (df L M) = (n : Int) * su sq (df L M) - su ix (df L M) * su ix (df L M) := by unfold vr; rw [dl]
    have q3 := sq_nn (su ix (df L M))
    have q4 : (n : Int) * su sq (df L M) ≤ 32 * 128000000 := Int.mul_le_mul i2 (by omega) q1.1 (by omega)
    have hvm := vl_make (n := vr (df L M)) (d := (n : Int)) hv (by omega) (by omega) (by omega)
    refine (rshifted_ok A A' c c' n L M h1.1 h1.2 h3 h4 w k1 k2).mono ?_
    rintro e w' ⟨t, u, rfl, hvl, hb⟩
    obtain ⟨rfl, rfl⟩ := vl_eq (by omega) hvl hvm
    exact ⟨rfl, hb⟩
  · exact ⟨0, 0, _, fun w k1 k2 => shift_bad A A' c c' n m L M _ rfl h hn hm w k1 k2, fun w k1 k2 => rshift_bad A A' c c' n m L M _ rfl h hn hm w k1 k2⟩
end Go.Proofs.Ytekeclapbfjdiaa.Say
