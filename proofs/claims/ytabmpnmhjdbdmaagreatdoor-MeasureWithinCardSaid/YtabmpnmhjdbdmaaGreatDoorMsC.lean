/- measure.Check of valid measures, measure.integer. -/
import Derived.Test.YtabmpnmhjdbdmaaGreatDoorMsM
import Derived.Test.YtabmpnmhjdbdmaaGreatDoorNor
import Derived.Test.YtabmpnmhjdbdmaaGreatDoorEuc1
import Derived.Test.YtabmpnmhjdbdmaaGreatDoorRatioMake
namespace Go.Proofs.YtabmpnmhjdbdmaaGreatDoor.Ms
open Go.ChangeShapes Go.WideShapes Go.RowKit Wo Sr Wi Ra
set_option linter.unusedVariables false
/-- a valid measure -/
def Mv (k b g : Int) : Prop := ((k = 1 ∨ k = 2 ∨ k = 3) ∧ b = 0 ∧ g = 0) ∨ (k = 4 ∧ 0 ≤ b ∧ b ≤ 32 ∧ g = 0) ∨ (k = 5 ∧ b = 0 ∧ -1000 ≤ g ∧ g ≤ 1000)
set_option maxHeartbeats 2000000 in
set_option maxRecDepth 100000 in
theorem check_ok (k b g : Int) (h : Mv k b g) (w : World) : Calls Tryz.prog 16 #[.agg #[.int .i64 k, .int .i64 b, .int .i64 g]] w fun e w' => e = .returned (.int .i64 0) ∧ Bel w w' := by
  rcases h with ⟨rfl | rfl | rfl, rfl, rfl⟩ | ⟨rfl, h0, h1, rfl⟩ | ⟨rfl, rfl, h0, h1⟩
  · go_enter Tryz.func16, Tryz.ntmps16
    go_wp2
    go_ret
    exact ⟨rfl, Bel.rf.al _⟩
  · go_enter Tryz.func16, Tryz.ntmps16
    go_wp2
    go_ret
    exact ⟨rfl, Bel.rf.al _⟩
  · go_enter Tryz.func16, Tryz.ntmps16
    go_wp2
    go_ret
    exact ⟨rfl, Bel.rf.al _⟩
  · go_enter Tryz.func16, Tryz.ntmps16
    go_wp2
    go_ret
    exact ⟨rfl, Bel.rf.al _⟩
  · have SO : Hid (∀ W, _) := fun W => sample_ok g h0 h1 W
    go_enter Tryz.func16, Tryz.ntmps16
    go_wp2_with (go_at_call 28; refine (SO.out _).mono ?_; rintro e w1 ⟨rfl, rfl⟩)
    go_ret
    exact ⟨rfl, Bel.rf.al _⟩
set_option maxHeartbeats 2000000 in
set_option maxRecDepth 100000 in
theorem integer_ok (d : Int) (h0 : 0 ≤ d) (h1 : d ≤ 2305843009213693952) (w : World) : Calls Tryz.prog 30 #[.int .i64 d, .int .i64 0] w fun e w' => e = .returned (.tuple #[.agg #[.int .i64 d, .int .i64 1], .int .i64 0]) ∧ Bel w w' := by
  have e1 : gd d 1 = 1 := gd_one d
  have MK : Hid (∀ W, Calls Tryz.prog 47 #[.int .i64 d, .int .i64 1] W fun e w' => e = .returned (.tuple #[.agg #[.int .i64 d, .int .i64 1], .int .i64 0]) ∧ Bel W w') := fun W => by
    have h := make_in d 1 W h0 (by decide) (by rw [e1, Int.ediv_one]; exact rin_yes ⟨h0, h1, by decide, by decide⟩) (by omega) (by decide)
    rw [e1, Int.ediv_one, Int.ediv_one] at h
    exact h
  go_enter Tryz.func30, Tryz.ntmps30
  go_wp2_with fail
  go_at_call 47
  refine (MK.out _).mono ?_
  rintro e w1 ⟨rfl, hb⟩
  have K4 : Bk w1 w.heap.size 31 #[.int .i64 0, .int .i64 0] := (Bk.nw _ _ _).bel hb
  have l0 : w1.cell? ⟨w.heap.size, 0, none⟩ = some (.int .i64 0) := K4.cell 0
  have l1 : w1.cell? ⟨w.heap.size, 1, none⟩ = some (.int .i64 0) := K4.cell 1
  have j0 := K4.fr 0
  have j1 := K4.fr 1
  have HF : Hid (Bel w w1) := (Bel.rf.al _).tr hb
  clear hb K4
  go_wp2
  refine bodyPost_ret (v := .tuple #[.agg #[.int .i64 d, .int .i64 1], .int .i64 0]) (by simp [results, Tryz.results30, go_sem, l0, l1]) rfl ⟨rfl, ?_⟩
  exact (HF.out.st (Nat.le_refl _) _).st (Nat.le_refl _) _
end Go.Proofs.YtabmpnmhjdbdmaaGreatDoor.Ms
