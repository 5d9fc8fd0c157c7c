/- series: what is kept where a reader draws on; joins. -/
import Derived.Test.YthpmgadmefhfpaaSer8
import Derived.Test.YthpmgadmefhfpaaSerJ
namespace Go.Proofs.Ythpmgadmefhfpaa.Se
open Go.RowKit Wo Sr Wi
set_option linter.unusedVariables false
theorem Vs.ch {w w' : World} {A : Option Addr} {n c g : Nat} {L : List Int} (h : Vs w A n c L) (hc : Ch g w w') (hn : ∀ ad, A = some ad → ad.block ≠ g) : Vs w' A n c L := ⟨h.1.ch hc hn, h.2⟩
theorem join_lists (A B C : List Int) (p q : Nat) : (A ++ List.replicate p 1073741824 ++ B) ++ List.replicate q 1073741824 ++ C = A ++ List.replicate p 1073741824 ++ (B ++ List.replicate q 1073741824 ++ C) := by simp
end Go.Proofs.Ythpmgadmefhfpaa.Se
