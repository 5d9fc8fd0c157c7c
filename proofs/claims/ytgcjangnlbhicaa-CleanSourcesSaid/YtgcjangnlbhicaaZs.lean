/- Numbers as values, and what grows leaves the reader. -/
import Derived.Test.YtgcjangnlbhicaaSrcP0
import Derived.Test.YtgcjangnlbhicaaSrcR0
import Derived.Test.YtgcjangnlbhicaaWinMath
import Derived.Deep.AppendLies
namespace Go.Proofs.Ytgcjangnlbhicaa.Sr
open Go.ChangeShapes Go.WideShapes Go.RowKit Wo Wi
set_option linter.unusedVariables false
/-- numbers as values -/
def zs (L : List Int) : List Value := L.map (Value.int .i64)
theorem zs_len (L : List Int) : (zs L).length = L.length := by simp [zs]
theorem zs_app (L M : List Int) : zs (L ++ M) = zs L ++ zs M := by simp [zs]
theorem zs_at {L : List Int} {j : Nat} (h : j < L.length) : (zs L)[j]? = some (.int .i64 (L.getD j 0)) := by simp [zs, List.getD_eq_getElem?_getD, h]
theorem info_int : (Try.prog.info? 3).map (fun i => (i.zero, i.size, i.bytes)) = some (some (.int .i64 0), 1, 8) := by kernel_rfl
theorem ok_grown {w w' : World} {g : Nat} {row : Option Nat} (h : Ok w g) (hg : w.grownBy w' row) (hr : ∀ b, row = some b → g < b) : Ok w' g := by
  obtain ⟨A, n, c, k, zs, h1, h2, h3, h4, h5⟩ := h
  refine ⟨A, n, c, k, zs, (hg.block g h1.lt (fun e => by have := hr _ e.symm; omega)).trans h1, h2, h3, h4, fun hn => ?_⟩
  obtain ⟨x, e, hx, hc⟩ := h5 hn
  exact ⟨x, e, hx, fun i hi => World.grownBy.cell hg (hc i hi) (fun e => by have := hr _ e.symm; rw [add_block] at this; omega)⟩
theorem ch_grown {a b c : World} {g : Nat} {row : Option Nat} (h : Ch g a b) (hg : b.grownBy c row) (hr : ∀ q, row = some q → a.heap.size ≤ q) : Ch g a c :=
  ⟨hg.os.trans h.os, hg.tape.trans h.tape, hg.output.trans h.output, Nat.le_trans h.size hg.size, fun i hi hn => (hg.block i (Nat.lt_of_lt_of_le hi h.size) (fun e => by have := hr _ e.symm; omega)).trans (h.block i hi hn)⟩
theorem sam_snoc {L : List Int} (h : Sam L) {y : Int} (h1 : -1000 ≤ y) (h2 : y ≤ 1000) : Sam (L ++ [y]) := by
  intro p hp
  rcases List.mem_append.1 hp with h' | h'
  · exact h p h'
  · simp at h'; subst h'; exact ⟨h1, h2⟩
end Go.Proofs.Ytgcjangnlbhicaa.Sr
