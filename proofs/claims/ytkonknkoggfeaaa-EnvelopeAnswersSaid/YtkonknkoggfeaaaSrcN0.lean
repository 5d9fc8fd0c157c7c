/- The contracts of shapesearchkeep.New, and N: a number in its range. -/
import Derived.Test.YtkonknkoggfeaaaSrc
import Derived.RegionTactic
import Derived.Laws.ResultCell
namespace Go.Proofs.Ytkonknkoggfeaaa.Sr
open Go.ChangeShapes Go.WideShapes Go.RowKit Wo
set_option linter.unusedVariables false
def SomeN (g : Nat) (n : Int) (w : World) (e : Ending) (w' : World) : Prop := ∃ x : Int, e = .returned (.int .i64 x) ∧ 0 ≤ x ∧ x < n ∧ Ok w' g ∧ Ch g w w'
theorem n_any (g : Nat) (n : Int) (h1 : 1 ≤ n) (h2 : n ≤ 9223372036854775807) (w : World) (h : Ok w g) :
    Calls Try.prog 20 #[.pointer (some ⟨g, 0, none⟩), .int .i64 n] w (SomeN g n w) := by
  have HO := Lib.hid h
  clear h
  go_enter Try.func20, Try.ntmps20
  go_wp2_with fail
  go_at_call 42
  refine (raw_any g _ HO.out).mono ?_
  rintro e w1 ⟨x, rfl, hx0, hx1, ho, hc⟩
  have HOK := Lib.hid ho
  have HCH := Lib.hid hc
  clear ho hc
  have e0 := Int.emod_nonneg x (b := n) (by omega)
  have e1 := Int.emod_lt_of_pos x (b := n) (by omega)
  go_wp2_with (go_at_call 8; refine (mod_any x n h1 h2 hx0 hx1 _).mono ?_; rintro e w' ⟨rfl, rfl⟩)
  go_ret
  exact ⟨x % n, rfl, e0, e1, HOK.out, HCH.out⟩
end Go.Proofs.Ytkonknkoggfeaaa.Sr
