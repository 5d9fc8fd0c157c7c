/- series.within, Window, Cut of valid series. -/
import Derived.Test.YthpmgadmefhfpaaSer4
namespace Go.Proofs.Ythpmgadmefhfpaa.Se
open Go.ChangeShapes Go.WideShapes Go.RowKit Wo Sr Wi
set_option linter.unusedVariables false
theorem results_s1 {fn : Func} {p : Tmp} (h : fn.results = #[.cell p 24]) (tmps : Array Value) (w : World) (g : Nat) (a b c : Value)
    (hp : tmps.getD p undef = .pointer (some ⟨g, 0, none⟩)) (hg : Bk w g 24 #[a, b, c]) :
    (results fn tmps).run Try.prog w = .ok (.agg #[a, b, c]) w := by
  have hp' : tmps[p]?.getD undef = .pointer (some ⟨g, 0, none⟩) := by simpa using hp
  have hl := run_loadVar_row (P := Try.prog) w g 24 24 #[a, b, c] (0, 0) _ hg Try.underlying24 rfl (by kernel_rfl)
  simp [results, h, hp', asAddr, hl]
theorem results_s2 {fn : Func} {p u : Tmp} (h : fn.results = #[.cell p 24, .tmp u]) (tmps : Array Value) (w : World) (g : Nat) (a b c : Value)
    (hp : tmps.getD p undef = .pointer (some ⟨g, 0, none⟩)) (hg : Bk w g 24 #[a, b, c]) :
    (results fn tmps).run Try.prog w = .ok (.tuple #[.agg #[a, b, c], tmps.getD u undef]) w := by
  have hp' : tmps[p]?.getD undef = .pointer (some ⟨g, 0, none⟩) := by simpa using hp
  have hl := run_loadVar_row (P := Try.prog) w g 24 24 #[a, b, c] (0, 0) _ hg Try.underlying24 rfl (by kernel_rfl)
  simp [results, h, hp', asAddr, hl]
theorem within_yes (st sp : Int) (A : Option Addr) (n c i k : Nat) (hn : n ≤ 3000) (hi : i + k ≤ n) (w : World) :
    Calls Try.prog 29 #[.agg #[.int .i64 st, .int .i64 sp, .slice A n c], .int .i64 (i : Int), .int .i64 (k : Int)] w fun e w' => e = .returned (.bool true) ∧ Bel w w' := by
  have h1 : (k : Int) ≤ (n : Int) := by omega
  have h2 : (i : Int) ≤ (n : Int) - (k : Int) := by omega
  have ni : (n : Int) ≤ 3000 := by omega
  have d1 : decide (k ≤ n) = true := decide_eq_true (by omega)
  have d2 : k ≤ n := by omega
  clear hi
  go_enter Try.func29, Try.ntmps29
  go_wp2
  go_ret
  exact ⟨rfl, by first | exact Bel.rf.al _ | exact (Bel.rf.al _).drw | exact (Bel.rf.al _).drwN _⟩
theorem within_no (st sp : Int) (A : Option Addr) (n c i k : Nat) (hn : n ≤ 3000) (hi : n < i + k) (hi2 : i ≤ 3000) (hk : k ≤ 3000) (w : World) :
    Calls Try.prog 29 #[.agg #[.int .i64 st, .int .i64 sp, .slice A n c], .int .i64 (i : Int), .int .i64 (k : Int)] w fun e w' => e = .returned (.bool false) ∧ Bel w w' := by
  have ni : (n : Int) ≤ 3000 := by omega
  have ii : (i : Int) ≤ 3000 := by omega
  have ik : (k : Int) ≤ 3000 := by omega
  rcases Nat.lt_or_ge n k with h | h
  · have d1 : decide (k ≤ n) = false := decide_eq_false (by omega)
    have d2 : ¬ k ≤ n := by omega
    go_enter Try.func29, Try.ntmps29
    go_wp2
    go_ret
    exact ⟨rfl, by first | exact Bel.rf.al _ | exact (Bel.rf.al _).drw | exact (Bel.rf.al _).drwN _⟩
  · have d1 : decide (k ≤ n) = true := decide_eq_true (by omega)
    have d2 : k ≤ n := by omega
    have h2 : ¬ (i : Int) ≤ (n : Int) - (k : Int) := by omega
    have h3 : decide ((i : Int) ≤ (n : Int) - (k : Int)) = false := decide_eq_false h2
    go_enter Try.func29, Try.ntmps29
    go_wp2
    go_ret
    exact ⟨rfl, by first | exact Bel.rf.al _ | exact (Bel.rf.al _).drw | exact (Bel.rf.al _).drwN _⟩
/-- what a window is, and its error -/
def wz (L : List Int) (i m : Nat) : List Int := if good L m i then (L.drop i).take m else []
def we (L : List Int) (i m : Nat) : Int := if good L m i then 0 else if i + m ≤ L.length then 13 else 1
def SomeWin (L : List Int) (i m : Nat) (w : World) (e : Ending) (w' : World) : Prop := ∃ (A : Option Addr) (k c : Nat), e = .returned (.tuple #[.slice A k c, .int .i64 (we L i m)]) ∧ k = (wz L i m).length ∧ Zi w' A k (wz L i m) ∧ Bel w w'
theorem zi_cut {w : World} {h i k n : Nat} {L : List Int} (hz : Zi w (some ⟨h, 0, none⟩) n L) (hi : i + k ≤ n) : Zi w (some ⟨h, i, none⟩) k ((L.drop i).take k) := zi_part hz i k hi
theorem part_len {L : List Int} {i k : Nat} (h : i + k ≤ L.length) : ((L.drop i).take k).length = k := by simp; omega
/-- slices.Clone of a part -/
theorem clone_part (A : Option Addr) (n c : Nat) (L : List Int) (hn : n ≤ 3000) (i k : Nat) (hi : i + k ≤ n) (w : World) (h : Vs w A n c L) :
    (A = none ∧ n = 0 ∧ i = 0 ∧ k = 0 ∧ c = 0 ∧ L = [] ∧ ∀ W, Bel w W → Calls Try.prog 30 #[.slice none 0 0] W (SomeVs k ((L.drop i).take k) W)) ∨
    (∃ g, A = some ⟨g, 0, none⟩ ∧ ((c = i ∧ k = 0 ∧ ∀ W, Bel w W → ∀ q, Calls Try.prog 30 #[.slice (some ⟨g, 0, none⟩) 0 q] W (SomeVs k ((L.drop i).take k) W)) ∨
      (¬ c = i ∧ ∀ W, Bel w W → ∀ q, Calls Try.prog 30 #[.slice (some ⟨g, i, none⟩) k q] W (SomeVs k ((L.drop i).take k) W)))) := by
  obtain ⟨hz, hc, hA⟩ := h
  have hl := hz.1
  rcases hA with ⟨rfl, rfl⟩ | ⟨g, rfl⟩
  · left
    have h0 : n = 0 := by omega
    have hL : L = [] := List.eq_nil_of_length_eq_zero (by omega)
    refine ⟨rfl, h0, by omega, by omega, rfl, hL, fun W hW => ?_⟩
    have hk : k = 0 := by omega
    subst hk hL
    have := clone_none W
    simpa using this
  · right
    refine ⟨g, rfl, ?_⟩
    rcases Classical.em (c = i) with h0 | h0
    · left
      have hk : k = 0 := by omega
      subst hk
      refine ⟨h0, rfl, fun W hW q => ?_⟩
      have := clone_some ⟨g, 0, none⟩ q 0 [] (by omega) W ⟨rfl, fun h => by omega⟩
      simpa using this
    · right
      exact ⟨h0, fun W hW q => clone_some ⟨g, i, none⟩ q k ((L.drop i).take k) (by omega) W ((zi_cut hz hi).bel hW)⟩
end Go.Proofs.Ythpmgadmefhfpaa.Se
