/- The contracts of keep.Uneven (two windows and a band that they fit) and limits.Warped. -/
import Derived.Test.YtabmpnmhjdbdmaaGreatDoorEdB
namespace Go.Proofs.YtabmpnmhjdbdmaaGreatDoor.Wa
open Go.ChangeShapes Go.WideShapes Go.RowKit Wo Sr Wi Ed
set_option linter.unusedVariables false
theorem warped_ok (A A' : Option Addr) (c c' n m : Nat) (L M : List Int) (b : Int) (n1 : 2 ≤ n) (n2 : n ≤ 32) (m1 : 2 ≤ m) (m2 : m ≤ 32) (b0 : 0 ≤ b) (b32 : b ≤ 32) (b1 : (n : Int) - (m : Int) ≤ b) (b2 : (m : Int) - (n : Int) ≤ b) (hs : Sam L) (ht : Sam M) (w : World) (h1 : Zi w A n L) (h2 : Zi w A' m M) :
    Calls Tryz.prog 51 #[.slice A n c, .slice A' m c', .int .i64 b] w fun e w' => e = .returned (.int .i64 0) ∧ Bel w w' := by
  have HW := Lib.hid (windows_ok A A' c c' n m L M b n1 n2 m1 m2 b1 b2 hs ht w h1 h2)
  clear h1 h2 hs ht
  go_enter Tryz.func51, Tryz.ntmps51
  go_wp2_with (go_at_call 48; refine HW.out.mono ?_; rintro e w2 ⟨rfl, hb2⟩)
  go_ret
  exact ⟨rfl, hb2⟩
/-- two windows in new rows and a band that they fit -/
def SomeU (g : Nat) (w : World) (e : Ending) (w' : World) : Prop := ∃ (a b c d n m : Nat) (L M : List Int) (k : Int), e = .returned (.tuple #[.slice (some ⟨a, 0, none⟩) n b, .slice (some ⟨c, 0, none⟩) m d, .int .i64 k]) ∧ 2 ≤ n ∧ n ≤ 32 ∧ 2 ≤ m ∧ m ≤ 32 ∧ a ≠ c ∧ n ≤ b ∧ m ≤ d ∧ 0 ≤ k ∧ k ≤ 32 ∧ (n : Int) - (m : Int) ≤ k ∧ (m : Int) - (n : Int) ≤ k ∧
  w'.ownsRow w.heap.size 3 1 (.slice (some ⟨a, 0, none⟩) n b) n (zs L) ∧ w'.ownsRow w.heap.size 3 1 (.slice (some ⟨c, 0, none⟩) m d) m (zs M) ∧ L.length = n ∧ M.length = m ∧ Sam L ∧ Sam M ∧ Ok w' g ∧ Ch g w w'
end Go.Proofs.YtabmpnmhjdbdmaaGreatDoor.Wa
