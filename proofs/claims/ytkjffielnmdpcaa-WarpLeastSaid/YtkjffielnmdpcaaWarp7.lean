/- The contract of shapesearchref14.Same over equal pairs; what Path's search keeps. -/
import Derived.Test.YtkjffielnmdpcaaWarp6
namespace Go.Proofs.Ytkjffielnmdpcaa.Wa
open Go.ChangeShapes Go.WideShapes Go.RowKit Wo Sr Wi Ed
set_option linter.unusedVariables false
set_option maxHeartbeats 4000000 in
theorem same_ok (g g' c c' n : Nat) (L : List Pr) (hn : n ≤ 1000000) (w : World) (h1 : Zp w (some ⟨g, 0, none⟩) n L) (h2 : Zp w (some ⟨g', 0, none⟩) n L) :
    Calls Try.prog 45 #[.slice (some ⟨g, 0, none⟩) n c, .slice (some ⟨g', 0, none⟩) n c'] w fun e w' => e = .returned (.bool true) ∧ Bel w w' := by
  have H1 := Lib.hid h1
  have H2 := Lib.hid h2
  have ni : (n : Int) ≤ 1000000 := by omega
  clear h1 h2
  go_enter Try.func45, Try.ntmps45
  go_wp2
  go_loopw [13] (fun s13 wr => ∃ (k : Nat) (V : World), V = wr ∧ k ≤ n ∧ s13 = .int .i64 (k : Int) ∧ Bel w wr) (fun s13 _ => n - (intOf s13).toNat)
  case atStart => exact ⟨0, _, rfl, by omega, rfl, Bel.rf⟩
  case round =>
    obtain ⟨k, wr, hwr, hk, rfl, hb⟩ := hrel
    subst hwr
    have HB := Lib.hid hb
    rcases Nat.lt_or_ge k n with hlt | hge
    · obtain ⟨c1, c1'⟩ := (H1.out.bel hb).at k hlt
      obtain ⟨c2, c2'⟩ := (H2.out.bel hb).at k hlt
      obtain ⟨x, hx⟩ : ∃ x, L.getD k (0, 0) = x := ⟨_, rfl⟩
      rw [hx] at c1 c1' c2 c2'
      obtain ⟨x1, x2⟩ := x
      have ki : (k : Int) < (n : Int) := by omega
      have kn := ne_self (x1 : Int)
      have kn2 := ne_self (x2 : Int)
      clear hb hx
      go_wp2
      go_quiet (fail)
      go_wp2
      go_roundw
      case rel => exact ⟨k + 1, _, rfl, by omega, by go_num, HB.out.drwN _⟩
      case measure => simp [intOf]; omega
    · obtain rfl : k = n := by omega
      clear hb
      go_wp2
      go_ret
      exact ⟨rfl, HB.out⟩
end Go.Proofs.Ytkjffielnmdpcaa.Wa
