/- Parts and cells of slices at any address. -/
import Derived.Test.YtkonknkoggfeaaaZi
namespace Go.Proofs.Ytkonknkoggfeaaa.Wi
open Go.ChangeShapes Go.WideShapes Go.RowKit Wo Sr
set_option linter.unusedVariables false
theorem add_addg (a : Addr) (i j : Nat) : (a.add i).add j = a.add (i + j) := by
  unfold Addr.add
  rcases Nat.eq_zero_or_pos i with rfl | hi
  · simp
  · rcases Nat.eq_zero_or_pos j with rfl | hj
    · simp
    · rw [if_neg (by omega), if_neg (by omega), if_neg (by omega)]; simp; omega
/-- the numbers at their cells -/
theorem Zi.atg {w : World} {ad : Addr} {n : Nat} {L : List Int} (h : Zi w (some ad) n L) (j : Nat) (hj : j < n) : w.cell? (ad.add j) = some (.int .i64 (L.getD j 0)) := by
  obtain ⟨ad', e, _, hc⟩ := h.2 (by omega)
  cases e
  exact hc j hj
theorem Zi.at2 {w : World} {ad : Addr} {n : Nat} {L : List Int} (h : Zi w (some ad) n L) (i j : Nat) (hj : i + j < n) : w.cell? ((ad.add i).add j) = some (.int .i64 (L.getD (i + j) 0)) := by
  rw [add_addg]; exact h.atg _ hj
end Go.Proofs.Ytkonknkoggfeaaa.Wi
