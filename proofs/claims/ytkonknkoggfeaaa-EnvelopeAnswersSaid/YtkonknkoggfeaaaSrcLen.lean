/- The contract of shapesearchkeep's Length: from 2 to 32. -/
import Derived.Test.YtkonknkoggfeaaaSrcR0
namespace Go.Proofs.Ytkonknkoggfeaaa.Sr
open Go.ChangeShapes Go.WideShapes Go.RowKit Wo
set_option linter.unusedVariables false
theorem length_any (g : Nat) (w : World) (h : Ok w g) : Calls Try.prog 40 #[.pointer (some ⟨g, 0, none⟩)] w (SomeRange g 2 32 w) := by
  have HO := Lib.hid h
  clear h
  go_enter Try.func40, Try.ntmps40
  go_wp2_with fail
  go_at_call 20
  refine (n_any g 8 (by decide) (by decide) _ HO.out).mono ?_
  rintro e w1 ⟨x, rfl, x0, x1, ho, hc⟩
  have HO1 := Lib.hid ho
  have HC1 := Lib.hid hc
  clear ho hc
  rcases (show x = 7 ∨ x ≠ 7 by omega) with rfl | hx
  · go_wp2_with (go_at_call 16; refine (range_any g 13 32 (by decide) (by decide) (by decide) _ HO1.out).mono ?_; rintro e w2 ⟨y, rfl, y0, y1, ho, hc⟩)
    go_ret
    exact ⟨y, rfl, by omega, by omega, ho, HC1.out.tr hc⟩
  · go_wp2_with (go_at_call 16; refine (range_any g 2 12 (by decide) (by decide) (by decide) _ HO1.out).mono ?_; rintro e w2 ⟨y, rfl, y0, y1, ho, hc⟩)
    go_ret
    exact ⟨y, rfl, by omega, by omega, ho, HC1.out.tr hc⟩
end Go.Proofs.Ytkonknkoggfeaaa.Sr
