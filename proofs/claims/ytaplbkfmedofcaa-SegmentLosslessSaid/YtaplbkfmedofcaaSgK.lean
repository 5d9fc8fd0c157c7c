/- segment.kinds, constant's encode and decode, packed's width. -/
import Derived.Test.YtaplbkfmedofcaaSgU
import Derived.Test.YtaplbkfmedofcaaSgRep
import Derived.BigQuiet
import Derived.Deep.RegionHeld3
namespace Go.Proofs.Ytaplbkfmedofcaa.Sg
open Go.ChangeShapes Go.WideShapes Go.RowKit Wo Bm By Cd Pk Sr Wi
set_option linter.unusedVariables false
def knd : Array Value := #[.iface 99 (.agg #[]), .iface 100 (.agg #[]), .iface 101 (.agg #[])]
theorem kinds_ok (w : World) : Calls Try.prog 45 #[] w fun e w' => ∃ g, e = .returned (.slice (some ⟨g, 0, none⟩) 3 3) ∧ w.heap.size ≤ g ∧ Bk w' g 80 knd ∧ Bel w w' := by
  go_enter Try.func45, Try.ntmps45
  go_wp2
  go_ret
  exact ⟨_, rfl, Nat.le_refl _, Bk.nw _ _ _, Bel.rf.al _⟩
theorem kenc0 (A : Option Addr) (n c : Nat) (K C L G S : Int) (w : World) : Calls Try.prog 79 #[.agg #[], .slice A n c, hdv K C L G S] w fun e w' => e = .returned (.tuple #[.slice none 0 0, .bool (L == G)]) ∧ Bel w w' := by
  unfold hdv
  go_enter Try.func79, Try.ntmps79
  go_wp2
  go_quiet (fail)
  go_wp2
  go_ret2
  exact ⟨rfl, by repeat (first | exact Bel.rf | (with_reducible refine Bel.drwN ?_ _) | (with_reducible refine Bel.drw ?_) | (with_reducible refine Bel.al ?_ _))⟩
theorem kdec0 (A : Option Addr) (n c C : Nat) (K L G S : Int) (hC : C ≤ 64) (w : World) : Calls Try.prog 78 #[.agg #[], .slice A n c, hdv K (C : Int) L G S] w fun e w' =>
    ∃ a, e = .returned (.tuple #[.slice (some ⟨a, 0, none⟩) C C, .bool true]) ∧ w.heap.size ≤ a ∧ Zi w' (some ⟨a, 0, none⟩) C (List.replicate C L) ∧ Bel w w' := by
  have HR : Hid (∀ (g : Nat) (W : World), W.cell? ⟨g, 0, none⟩ = some (.int .i64 L) → _) := fun g W h => repeat_any g L C (by omega) W h
  unfold hdv
  go_enter Try.func78, Try.ntmps78
  go_wp2_with (go_at_call 38; refine (HR.out _ _ ((Bk.nq _ _ _ (by simp)).cell 0)).mono ?_; rintro e w1 ⟨a, rfl, ha, hz, hb⟩)
  go_ret2
  simp only [World.size_alloc] at ha
  exact ⟨a, rfl, by omega, hz, Bel.tr (a := w) (((Bel.rf.al _).al _).al _) hb⟩
theorem pwidth_ok (K C L G S D : Int) (h0 : wrap64 (G - L) = D) (w : World) :
    Calls Try.prog 82 #[.agg #[], hdv K C L G S] w fun e w' => ∃ r, e = .returned (.int .i64 r) ∧ WdOf D r ∧ Bel w w' := by
  have hD : -9223372036854775808 ≤ D ∧ D ≤ 9223372036854775807 := by rw [← h0]; unfold wrap64; omega
  have h0' : IntKind.i64.wrap (G - L) = D := (IntWalk.i64_left _).trans h0
  have HW : Hid (∀ (g : Nat) (W : World), Bk W g 3 #[.int .i64 D] → _) := fun g W h => width1 D hD.1 hD.2 g W h
  unfold hdv
  go_enter Try.func82, Try.ntmps82
  go_wp2_with (go_at_call 85; refine (HW.out _ _ (Bk.nq _ _ _ (by simp))).mono ?_; rintro e w1 ⟨⟨r, rfl, hr⟩, rfl⟩)
  go_ret
  exact ⟨r, rfl, hr, by repeat (first | exact Bel.rf | (with_reducible refine Bel.drwN ?_ _) | (with_reducible refine Bel.drw ?_) | (with_reducible refine Bel.al ?_ _))⟩
end Go.Proofs.Ytaplbkfmedofcaa.Sg
