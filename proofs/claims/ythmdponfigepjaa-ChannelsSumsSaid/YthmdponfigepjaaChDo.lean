/- channels.checkBand, from an offset on. -/
import Derived.Test.YthmdponfigepjaaChCo
namespace Go.Proofs.Ythmdponfigepjaa.Co
open Go.ChangeShapes Go.WideShapes Go.RowKit Wo Sr Wi Ch
set_option linter.unusedVariables false
theorem band_ok (o g1 g2 q n m c1 c2 : Nat) (As Bs : Nat → Option Addr) (cs ds : Nat → Nat) (Ls Ms : Nat → List Int) (b : Int) (q1 : 1 ≤ q) (q4 : q ≤ 4) (n2 : 2 ≤ n) (n32 : n ≤ 32) (m2 : 2 ≤ m) (m32 : m ≤ 32) (b0 : 0 ≤ b) (b32 : b ≤ 32)
    (hb1 : (n : Int) - (m : Int) ≤ b) (hb2 : (m : Int) - (n : Int) ≤ b) (w : World) (hX : Bun w g1 o q n As cs Ls) (hY : Bun w g2 o q m Bs ds Ms) :
    Calls Try.prog 38 #[.slice (some ⟨g1, o, none⟩) q c1, .slice (some ⟨g2, o, none⟩) q c2, .int .i64 b] w fun e w' => e = .returned (.int .i64 0) ∧ Bel w w' := by
  have HC := Lib.hid (check_ok o g1 g2 q n m c1 c2 As Bs cs ds Ls Ms b q1 q4 n2 n32 m2 m32 hb1 hb2 w hX hY)
  clear hX hY
  go_enter Try.func38, Try.ntmps38
  go_wp2_with fail
  go_at_call 46
  refine HC.out.mono ?_
  rintro e w1 ⟨rfl, hb⟩
  go_wp2
  go_ret
  exact ⟨rfl, hb⟩
end Go.Proofs.Ythmdponfigepjaa.Co
