/- series.within, Window, Cut of valid series. -/
import Derived.Test.YtaplbkfmedofcaaSer4
namespace Go.Proofs.Ytaplbkfmedofcaa.Se
open Go.ChangeShapes Go.WideShapes Go.RowKit Wo Sr Wi
set_option linter.unusedVariables false
theorem results_s1 {fn : Func} {p : Tmp} (h : fn.results = #[.cell p 43]) (tmps : Array Value) (w : World) (g : Nat) (a b c : Value)
    (hp : tmps.getD p undef = .pointer (some ⟨g, 0, none⟩)) (hg : Bk w g 43 #[a, b, c]) :
    (results fn tmps).run Try.prog w = .ok (.agg #[a, b, c]) w := by
  have hp' : tmps[p]?.getD undef = .pointer (some ⟨g, 0, none⟩) := by simpa using hp
  have hl := run_loadVar_row (P := Try.prog) w g 43 43 #[a, b, c] (0, 0) _ hg Try.underlying43 rfl (by kernel_rfl)
  simp [results, h, hp', asAddr, hl]
theorem results_s2 {fn : Func} {p u : Tmp} (h : fn.results = #[.cell p 43, .tmp u]) (tmps : Array Value) (w : World) (g : Nat) (a b c : Value)
    (hp : tmps.getD p undef = .pointer (some ⟨g, 0, none⟩)) (hg : Bk w g 43 #[a, b, c]) :
    (results fn tmps).run Try.prog w = .ok (.tuple #[.agg #[a, b, c], tmps.getD u undef]) w := by
  have hp' : tmps[p]?.getD undef = .pointer (some ⟨g, 0, none⟩) := by simpa using hp
  have hl := run_loadVar_row (P := Try.prog) w g 43 43 #[a, b, c] (0, 0) _ hg Try.underlying43 rfl (by kernel_rfl)
  simp [results, h, hp', asAddr, hl]
/-- what a window is, and its error -/
def wz (L : List Int) (i m : Nat) : List Int := if good L m i then (L.drop i).take m else []
def we (L : List Int) (i m : Nat) : Int := if good L m i then 0 else if i + m ≤ L.length then 13 else 1
def SomeWin (L : List Int) (i m : Nat) (w : World) (e : Ending) (w' : World) : Prop := ∃ (A : Option Addr) (k c : Nat), e = .returned (.tuple #[.slice A k c, .int .i64 (we L i m)]) ∧ k = (wz L i m).length ∧ Zi w' A k (wz L i m) ∧ Bel w w'
theorem zi_cut {w : World} {h i k n : Nat} {L : List Int} (hz : Zi w (some ⟨h, 0, none⟩) n L) (hi : i + k ≤ n) : Zi w (some ⟨h, i, none⟩) k ((L.drop i).take k) := zi_part hz i k hi
theorem part_len {L : List Int} {i k : Nat} (h : i + k ≤ L.length) : ((L.drop i).take k).length = k := by simp; omega
end Go.Proofs.Ytaplbkfmedofcaa.Se
