/- Bounds of the sums of squares over channels; the laws' facts of one channel. -/
import Derived.Test.YthmdponfigepjaaChAw
namespace Go.Proofs.Ythmdponfigepjaa.Ch
open Go.RowKit Wo Sr Wi
set_option linter.unusedVariables false
theorem es_bd {Ls Ms : Nat → List Int} {n : Nat} (n32 : n ≤ 32) : ∀ q, (∀ c, c < q → Sam (Ls c) ∧ Sam (Ms c) ∧ (Ls c).length = n ∧ (Ms c).length = n) → 0 ≤ es Ls Ms q ∧ es Ls Ms q ≤ 128000000 * (q : Int)
  | 0, _ => ⟨Int.le_refl _, Int.le_refl _⟩
  | q + 1, h => by
    have ih := es_bd n32 q (fun c hc => h c (by omega))
    obtain ⟨h1, h2, h3, h4⟩ := h q (by omega)
    have b := susq_bd (df_bd (A := 1000) (B := 1000) h1 h2)
    have hl : (df (Ls q) (Ms q)).length = n := by rw [df]; simp [h3, h4]
    rw [hl] at b
    have hn : (n : Int) ≤ 32 := by omega
    show 0 ≤ es Ls Ms q + su sq (df (Ls q) (Ms q)) ∧ es Ls Ms q + su sq (df (Ls q) (Ms q)) ≤ _
    obtain ⟨b1, b2⟩ := b
    have b3 : ((1000 + 1000) * (1000 + 1000) : Int) * (n : Int) = 4000000 * (n : Int) := by rfl
    rw [b3] at b2
    omega
theorem aps_one (b : Int) (n m : Nat) (Ls Ms : Nat → List Int) : aps b n m Ls Ms 1 = wt (Ls 0) (Ms 0) b n m := by
  rw [wg_cst (Ls 0) (Ms 0) b _ n m rfl]
  exact Int.zero_add _
theorem fs_one (Ls Ms : Nat → List Int) : fs Ls Ms 1 = cst (Ls 0) (Ms 0) := by
  funext i j
  exact Int.zero_add _
theorem tog_one (b : Int) (n m : Nat) (Ls Ms : Nat → List Int) : wg (fs Ls Ms 1) b n m = wt (Ls 0) (Ms 0) b n m := by
  rw [wg_cst (Ls 0) (Ms 0) b _ n m rfl, fs_one]
end Go.Proofs.Ythmdponfigepjaa.Ch
