/- The contract of the reference's Distance of layer 14 over any two windows. -/
import Derived.Test.YthmdponfigepjaaR14h
namespace Go.Proofs.Ythmdponfigepjaa.R14
open Go.ChangeShapes Go.WideShapes Go.RowKit Wo Sr Wi Eu Ev
set_option linter.unusedVariables false
theorem zi_lt {w : World} {x n : Nat} {L : List Int} (h : Zi w (some ⟨x, 0, none⟩) n L) (hn : 0 < n) : x < w.heap.size := by
  obtain ⟨ad, e, hb, _⟩ := h.2 hn
  cases e
  exact hb
theorem rdist (hx hy c c' n m : Nat) (b : Int) (X Y : List Int) (n1 : 2 ≤ n) (n2 : n ≤ 32) (m1 : 2 ≤ m) (m2 : m ≤ 32) (b0 : 0 ≤ b) (b1 : b ≤ 32) (d1 : (n : Int) - (m : Int) ≤ b) (d2 : (m : Int) - (n : Int) ≤ b) (hs : Sam X) (ht : Sam Y) (w : World) (h1 : Zi w (some ⟨hx, 0, none⟩) n X) (h2 : Zi w (some ⟨hy, 0, none⟩) m Y) :
    Calls Try.prog 21 #[.slice (some ⟨hx, 0, none⟩) n c, .slice (some ⟨hy, 0, none⟩) m c', .int .i64 b] w fun e w' => e = .returned (.tuple #[.int .i64 (wt X Y b n m), .int .i64 0]) ∧ Bel w w' :=
  distance_of hx hy c c' n m b X Y n1 n2 m1 m2 b0 b1 d1 d2 hs ht w h1 h2 (fun W hW =>
    costs_ok hx hy c c' n m X Y (by omega) n2 (by omega) m2 hs ht W (h1.bel hW) (h2.bel hW) (zi_lt (h1.bel hW) (by omega)) (zi_lt (h2.bel hW) (by omega)))
end Go.Proofs.Ythmdponfigepjaa.R14
