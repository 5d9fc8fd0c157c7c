/- The law's awake. -/
import Derived.Test.YtekeclapbfjdiaaEuR
import Derived.Test.YtekeclapbfjdiaaEuS
namespace Go.Proofs.Ytekeclapbfjdiaa.Say
open Go.ChangeShapes Go.WideShapes Go.RowKit Wo Sr Wi Ra Eu
set_option linter.unusedVariables false
theorem sam_l {L : List Int} (h : (L.all fun x => decide (-1000 ≤ x) && decide (x ≤ 1000)) = true) : Sam L := fun x hx => by
  have := List.all_eq_true.1 h x hx
  simpa using this
theorem one_12 : one 2 [1, 2] = 0 := by unfold one; rw [if_pos ⟨by decide, by decide⟩, if_pos (by decide)]
set_option maxHeartbeats 4000000 in
set_option maxRecDepth 100000 in
theorem awake_any (w : World) : Calls Try.prog 5 #[] w fun e w' => e = .returned (.bool true) ∧ Bel w w' := by
  have z1 : Zi ((w.alloc (.cells #[.int .i64 1, .int .i64 2, .int .i64 3] 3)).alloc (.cells #[.int .i64 2, .int .i64 4, .int .i64 3] 3)) (some ⟨w.heap.size, 0, none⟩) 3 [1, 2, 3] := zi_bk ((Bk.nw w 3 _).al _) 3 rfl
  have z2 : Zi ((w.alloc (.cells #[.int .i64 1, .int .i64 2, .int .i64 3] 3)).alloc (.cells #[.int .i64 2, .int .i64 4, .int .i64 3] 3)) (some ⟨w.heap.size + 1, 0, none⟩) 3 [2, 4, 3] := zi_bk (Bk.nq _ 3 _ (by simp)) 3 rfl
  have HZ1 := Lib.hid z1
  have HZ2 := Lib.hid z2
  have sd : su sq (df [1, 2, 3] [2, 4, 3]) = 5 := by decide
  have sv : vr (df [1, 2, 3] [2, 4, 3]) = 6 := by decide
  have sg : gd 6 3 = 3 := by decide
  have SD := Lib.hid (And.intro sd (And.intro sv sg))
  clear z1 z2 sd sv sg
  go_enter Try.func5, Try.ntmps5
  go_wp2_with fail
  go_at_call 11
  refine (distance_ok _ _ 3 3 3 [1, 2, 3] [2, 4, 3] (by decide) (by decide) (sam_l (by decide)) (sam_l (by decide)) _ HZ1.out HZ2.out).mono ?_
  rintro e w1 ⟨rfl, hb1⟩
  rw [SD.out.1]
  have HB1 := Lib.hid hb1
  have HBW1 : Hid (Bel w w1) := ((Bel.rf.al _).al _).tr hb1
  clear hb1
  go_wp2_with fail
  go_at_call 13
  refine (shifted_ok _ _ 3 3 3 [1, 2, 3] [2, 4, 3] (by decide) (by decide) (sam_l (by decide)) (sam_l (by decide)) _ (HZ1.out.bel HB1.out) (HZ2.out.bel HB1.out)).mono ?_
  rintro e w2 ⟨rfl, hb2⟩
  have eg : (6 : Int) / gd 6 ((3 : Nat) : Int) = 2 := by rw [show ((3 : Nat) : Int) = 3 from rfl, SD.out.2.2]; rfl
  have eg2 : (((3 : Nat) : Int)) / gd 6 ((3 : Nat) : Int) = 1 := by rw [show ((3 : Nat) : Int) = 3 from rfl, SD.out.2.2]; rfl
  rw [SD.out.2.1, eg, eg2]
  have HBW2 := Lib.hid (HBW1.out.tr hb2)
  clear hb2 eg eg2
  go_wp2_with fail
  go_at_call 17
  refine (prof_good (some ⟨w2.heap.size + 1, 0, none⟩) (some ⟨w2.heap.size + 2, 0, none⟩) 2 2 4 4 3 [1, 2] [1, 2, 4, 0] one_12 (by decide) (by decide) (by decide) (sam_l (by decide)) _ (zi_bk (Bk.al (Bk.nq _ 3 _ (by simp)) _) 2 rfl) (zi_bk (Bk.nq _ 3 _ (by simp)) 4 rfl)).mono ?_
  rintro e w3 ⟨v, rfl, hown, hb3⟩
  have HBW3 : Hid (Bel w w3) := (((HBW2.out.al _).al _).al _).tr hb3
  have K3 : Bk w3 w2.heap.size 37 #[.int .i64 2, .int .i64 1] := (((Bk.nw _ _ _).al _).al _).bel hb3
  have l0 : w3.cell? ⟨w2.heap.size, 0, none⟩ = some (.int .i64 2) := K3.cell 0
  have l1 : w3.cell? ⟨w2.heap.size, 1, none⟩ = some (.int .i64 1) := K3.cell 1
  obtain ⟨g, c, rfl, _, _⟩ := row_form hown (by decide)
  have HP := Lib.hid (own_zi hown rfl)
  clear hb3 hown K3
  go_wp2_with (go_at_call 19; refine (ints_same _ (some ⟨w3.heap.size, 0, none⟩) c 3 3 [0, 5, 13] (by decide) _ (HP.out.bel (Bel.rf.al _)) (zi_bk (Bk.nw _ 3 _) 3 rfl)).mono ?_; rintro e w4 ⟨rfl, hb4⟩)
  go_ret
  exact ⟨rfl, (HBW3.out.al _).tr hb4⟩
end Go.Proofs.Ytekeclapbfjdiaa.Say
