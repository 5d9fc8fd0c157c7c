/- series: parts of series: slices.Clone, Index, Contains, keep's In and Inside, series.Window, series.Cut. -/
import Derived.Test.YtaplbkfmedofcaaAppS
import Derived.Test.YtaplbkfmedofcaaSer1
import Derived.Deep.RegionHeld3
namespace Go.Proofs.Ytaplbkfmedofcaa.Se
open Go.ChangeShapes Go.WideShapes Go.RowKit Wo Sr Wi
set_option linter.unusedVariables false
/-- the values of a series, as they lie -/
def Vs (w : World) (A : Option Addr) (n c : Nat) (L : List Int) : Prop := Zi w A n L ∧ n ≤ c ∧ ((A = none ∧ c = 0) ∨ ∃ h, A = some ⟨h, 0, none⟩)
theorem Vs.bel {w w' : World} {A : Option Addr} {n c : Nat} {L : List Int} (h : Vs w A n c L) (hb : Bel w w') : Vs w' A n c L := ⟨h.1.bel hb, h.2⟩
theorem Vs.far {w : World} {A : Option Addr} {n c : Nat} {L : List Int} (h : Vs w A n c L) {q : Addr} (hn : ∀ ad, A = some ad → ad.block ≠ q.block) (u : Value) : Vs (w.setCell q u) A n c L :=
  ⟨⟨h.1.1, fun h0 => by
    obtain ⟨ad, e, hx, hc⟩ := h.1.2 h0
    exact ⟨ad, e, by simpa [World.setCell] using hx, fun j hj => (World.cell?_setCell_other _ _ _ _ (fun e2 => hn ad e (by rw [← add_block ad j, ← e2]))).trans (hc j hj)⟩⟩, h.2⟩
theorem own_vs {w : World} {base n : Nat} {v : Value} {L : List Int} (h : w.ownsRow base 3 1 v n (zs L)) (hl : L.length = n) : ∃ A c, v = .slice A n c ∧ Vs w A n c L ∧ ∀ ad, A = some ad → base ≤ ad.block := by
  obtain ⟨A, c, rfl, hz, hA⟩ := row_zi h hl
  refine ⟨A, c, rfl, ⟨hz, ?_⟩, fun ad e => by subst e; exact (h.lt ad.block rfl).1⟩
  rcases h.2 with ⟨e, h0⟩ | ⟨g, cap, cur, e, _, _, hc, _⟩
  · injection e with e1 e2 e3
    subst e1 e3
    exact ⟨by omega, .inl ⟨rfl, rfl⟩⟩
  · injection e with e1 e2 e3
    subst e1 e3
    exact ⟨hc, .inr ⟨g, rfl⟩⟩
def SomeVs (k : Nat) (Z : List Int) (w : World) (e : Ending) (w' : World) : Prop := ∃ A c, e = .returned (.slice A k c) ∧ Vs w' A k c Z ∧ (∀ ad, A = some ad → w.heap.size ≤ ad.block) ∧ Bel w w'
/-- a number that is looked for -/
def SomeIdx (b : Bool) (w : World) (e : Ending) (w' : World) : Prop := ∃ r : Int, e = .returned (.int .i64 r) ∧ -1 ≤ r ∧ r ≤ 3000 ∧ decide (0 ≤ r) = b ∧ Bel w w'
end Go.Proofs.Ytaplbkfmedofcaa.Se
