/- The contract of shapesearchlaw15.awake. -/
import Derived.Test.YtkjffielnmdpcaaEdit4
namespace Go.Proofs.Ytkjffielnmdpcaa.Ed
open Go.ChangeShapes Go.WideShapes Go.RowKit Wo Sr Wi
set_option linter.unusedVariables false
theorem ex1 : et [1, 2, 3] [1, 3] 0 3 2 = 2 := by simp [et, mn3, mn, ab]
set_option maxHeartbeats 4000000 in
set_option maxRecDepth 100000 in
theorem awake_any (w : World) : Calls Try.prog 30 #[] w fun e w' => e = .returned (.bool true) ∧ Bel w w' := by
  have E1 := Lib.hid ex1
  go_enter Try.func30, Try.ntmps30
  go_wp2_with fail
  go_at_call 26
  refine (distance_ok _ _ 3 2 3 2 [1, 2, 3] [1, 3] 0 (by decide) (by decide) (by decide) (by decide) (by decide) (by decide) (sam_l (by decide)) (sam_l (by decide)) _ (zi_bk ((Bk.nw w 3 _).al _) 3 rfl) (zi_bk (Bk.nq _ 3 _ (by simp)) 2 rfl)).mono ?_
  rintro e w1 ⟨rfl, hb1⟩
  rw [E1.out]
  have HB1 : Hid (Bel w w1) := ((Bel.rf.al _).al _).tr hb1
  clear hb1
  go_wp2_with fail
  go_at_call 27
  refine (align2 w1.heap.size (w1.heap.size + 1) 2 2 _ (zi_bk ((Bk.nw w1 3 _).al _) 2 rfl) (zi_bk (Bk.nq _ 3 _ (by simp)) 2 rfl)).mono ?_
  rintro e w2 ⟨h, c, rfl, hz, hb2⟩
  have HB2 : Hid (Bel w w2) := ((HB1.out.al _).al _).tr hb2
  have HZ := Lib.hid hz
  clear hb2 hz
  go_wp2_with (go_at_call 53; refine (ints_same _ (some ⟨w2.heap.size, 0, none⟩) c 3 3 [2, 1, 3] (by decide) _ (HZ.out.bel (Bel.rf.al _)) (zi_bk (Bk.nw _ 3 _) 3 rfl)).mono ?_; rintro e w4 ⟨rfl, hb4⟩)
  go_ret
  exact ⟨rfl, (HB2.out.al _).tr hb4⟩
end Go.Proofs.Ytkjffielnmdpcaa.Ed
