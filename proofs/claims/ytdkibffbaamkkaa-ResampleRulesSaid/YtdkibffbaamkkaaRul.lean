/- Or-sums over the first rounds, for the law ResampleRules. -/
import Derived.Test.YtdkibffbaamkkaaRes6
import Derived.Deep.DeepCutAuto
import Derived.Deep.CutBlock
import Derived.Deep.CutRange
import Derived.Deep.RegionWith
namespace Go.Proofs.Ytdkibffbaamkkaa.Rg
open Go.ChangeShapes Go.WideShapes Go.RowKit Wo Sr Wi Rm
theorem or_ex {p : Nat → Prop} {b d : Bool} {i : Nat} (hb : b = true ↔ ∃ j, j < i ∧ p j) (hd : d = true ↔ p i) : (b || d) = true ↔ ∃ j, j < i + 1 ∧ p j := by
  rw [Bool.or_eq_true, hb, hd]
  constructor
  · rintro (⟨j, h1, h2⟩ | h)
    · exact ⟨j, by omega, h2⟩
    · exact ⟨i, by omega, h⟩
  · rintro ⟨j, h1, h2⟩
    rcases Nat.lt_or_ge j i with h | h
    · exact .inl ⟨j, h, h2⟩
    · obtain rfl : j = i := by omega
      exact .inr h2
def Ho (l : List Rp) (T q : Int) (j : Nat) : Prop := 0 ≤ T - tm l j ∧ T - tm l j ≤ q
def Nf (l : List Rp) (T q : Int) (j : Nat) : Prop := T - tm l j ≤ q ∧ tm l j - T ≤ q
theorem bool_same {a b : Bool} (h : a = true ↔ b = true) : a = b := Bool.eq_iff_iff.2 h
theorem val_nil (q t : Int) : val [] 1 q t = (0, false) ∨ val [] 1 q t = val [] 1 q t := .inr rfl
end Go.Proofs.Ytdkibffbaamkkaa.Rg
