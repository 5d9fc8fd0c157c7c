/- The contracts of shapesearchkeep's Range: a number in a range. -/
import Derived.Test.YtkonknkoggfeaaaSrcN0
namespace Go.Proofs.Ytkonknkoggfeaaa.Sr
open Go.ChangeShapes Go.WideShapes Go.RowKit Wo
set_option linter.unusedVariables false
def SomeRange (g : Nat) (lo hi : Int) (w : World) (e : Ending) (w' : World) : Prop := ∃ x : Int, e = .returned (.int .i64 x) ∧ lo ≤ x ∧ x ≤ hi ∧ Ok w' g ∧ Ch g w w'
theorem range_any (g : Nat) (lo hi : Int) (h0 : -2305843009213693952 ≤ lo) (h1 : lo ≤ hi) (h2 : hi ≤ 2305843009213693952) (w : World) (h : Ok w g) :
    Calls Try.prog 16 #[.pointer (some ⟨g, 0, none⟩), .int .i64 lo, .int .i64 hi] w (SomeRange g lo hi w) := by
  have HN : Hid (∀ W, Ok W g → Calls Try.prog 20 #[.pointer (some ⟨g, 0, none⟩), .int .i64 (hi - lo + 1)] W (SomeN g (hi - lo + 1) W)) := fun W hW => n_any g _ (by omega) (by omega) W hW
  have HO := Lib.hid h
  clear h
  go_enter Try.func16, Try.ntmps16
  go_wp2_with fail
  go_at_call 20
  refine (HN.out _ HO.out).mono ?_
  rintro e w1 ⟨x, rfl, hx0, hx1, ho, hc⟩
  have HOK := Lib.hid ho
  have HCH := Lib.hid hc
  clear ho hc
  go_wp2
  go_ret
  exact ⟨lo + x, rfl, by omega, by omega, HOK.out, HCH.out⟩
end Go.Proofs.Ytkonknkoggfeaaa.Sr
