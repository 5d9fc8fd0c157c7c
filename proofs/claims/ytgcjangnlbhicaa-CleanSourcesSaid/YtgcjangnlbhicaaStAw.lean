/- The contract of shapesearchlaw07.awake. -/
import Derived.Test.YtgcjangnlbhicaaStJ
import Derived.Test.YtgcjangnlbhicaaSm
namespace Go.Proofs.Ytgcjangnlbhicaa.St
open Go.ChangeShapes Go.WideShapes Go.RowKit Wo Sr Wi Rm Rg Pk
set_option linter.unusedVariables false
def ex0 : List Rp := [(5, 1), (3, 9), (5, 4)]
theorem ex_v : Vrs ex0 := fun i hi => by
  rcases (by simp [ex0] at hi; omega : i = 0 ∨ i = 1 ∨ i = 2) with rfl | rfl | rfl <;> simp [Vr, tm, vl, ex0]
theorem ex_5 : cln 5 ex0 = [(3, 9), (5, 3)] := by decide
theorem ex_r : rpt (grs ex0) = [5] := by decide
theorem ex_6 : ∃ i, i < (grs ex0).length ∧ 1 < ((grs ex0).getD i []).length := ⟨1, by decide, by decide⟩
set_option maxHeartbeats 4000000 in
set_option maxRecDepth 100000 in
theorem awake_any (w : World) : Calls Try.prog 12 #[] w fun e w' => e = .returned (.bool true) ∧ Bel w w' := by
  have HZ0 : Hid (Zo (w.alloc (.cells #[.int .i64 5, .int .i64 1, .int .i64 3, .int .i64 9, .int .i64 5, .int .i64 4] 28)) (some ⟨w.heap.size, 0, none⟩) 3 ex0) := Zr.zo (zr_bk (Bk.nw _ _ _) 3 rfl)
  have HB0 : Hid (Bel w (w.alloc (.cells #[.int .i64 5, .int .i64 1, .int .i64 3, .int .i64 9, .int .i64 5, .int .i64 4] 28))) := Bel.rf.al _
  go_enter Try.func12, Try.ntmps12
  go_wp2_with fail
  go_at_call 10
  refine (clean_ok _ 3 3 ex0 5 (by decide) (by decide) (by decide) ex_v _ (by first | exact HZ0.out | exact HZ0.out.bel (Bel.rf.drwN _)) (.inl ⟨_, rfl⟩) (fun h => by cases h)).mono ?_
  rintro e w1 ⟨v, rfl, ho, hb⟩
  rw [ex_5] at ho
  obtain ⟨A1, c1, rfl, hz1⟩ := own_zr ho rfl
  have HA1 : Hid (Zr w1 A1 2 [(3, 9), (5, 3)]) := hz1
  have HB1 : Hid (Bel w w1) := by first | exact HB0.out.tr hb | exact (HB0.out.drwN _).tr hb
  have HZ1 : Hid (Zo w1 (some ⟨w.heap.size, 0, none⟩) 3 ex0) := by first | exact Zo.bel HZ0.out hb | exact Zo.bel HZ0.out ((Bel.rf.drwN _).tr hb)
  clear ho hb hz1
  go_wp2_with fail
  go_at_call 10
  refine (clean_twice _ 3 3 ex0 (by decide) ex_v _ (by first | exact HZ1.out | exact Zo.bel HZ1.out (Bel.rf.drwN _)) (.inl ⟨_, rfl⟩) ex_6).mono ?_
  rintro e w2 ⟨rfl, hb⟩
  have HB2 : Hid (Bel w w2) := by first | exact HB1.out.tr hb | exact (HB1.out.drwN _).tr hb
  have HZ2 : Hid (Zo w2 (some ⟨w.heap.size, 0, none⟩) 3 ex0) := by first | exact Zo.bel HZ1.out hb | exact Zo.bel HZ1.out ((Bel.rf.drwN _).tr hb)
  have HA2 : Hid (Zr w2 A1 2 [(3, 9), (5, 3)]) := by first | exact HA1.out.bel hb | exact HA1.out.bel ((Bel.rf.drwN _).tr hb)
  clear hb
  go_wp2_with (first
    | (go_at_call 11; refine (same_ok A1 (some ⟨w2.heap.size, 0, none⟩) _ 2 2 2 [(3, 9), (5, 3)] [(3, 9), (5, 3)] (by decide) (by decide) _ (HA2.out.bel (Bel.rf.al _)) (zr_bk (Bk.nw _ 28 _) 2 rfl)).mono ?_; rintro e w3 ⟨rfl, hb3⟩; have HB3 : Hid (Bel w w3) := (HB2.out.al _).tr hb3; have HZ3 : Hid (Zo w3 (some ⟨w.heap.size, 0, none⟩) 3 ex0) := Zo.bel HZ2.out ((Bel.rf.al _).tr hb3); have dd : decide ([((3 : Int), (9 : Int)), (5, 3)] = [((3 : Int), (9 : Int)), (5, 3)]) = true := (by decide); rw [dd]; clear hb3)
    | (go_at_call 13; refine (repeated_ok _ 3 3 ex0 (by decide) ex_v _ (by first | exact HZ3.out | exact Zo.bel HZ3.out (Bel.rf.drwN _)) (.inl ⟨_, rfl⟩)).mono ?_; rintro e w4 ⟨v4, rfl, ho4, hb4⟩; rw [ex_r] at ho4; obtain ⟨A4, c4, rfl, hz4, _⟩ := row_zi ho4 rfl; have HZ4 : Hid (Zi w4 A4 1 [5]) := hz4; have HB4 : Hid (Bel w w4) := (by first | exact HB3.out.tr hb4 | exact (HB3.out.drwN _).tr hb4); clear hb4 ho4 hz4)
    | (go_at_call 24; refine (ints_same A4 (some ⟨w4.heap.size, 0, none⟩) _ 1 1 [5] (by decide) _ (HZ4.out.bel (Bel.rf.al _)) (zi_bk (Bk.nw _ 3 _) 1 rfl)).mono ?_; rintro e w5 ⟨rfl, hb5⟩))
  go_ret
  exact ⟨rfl, by first | exact (HB4.out.al _).tr hb5 | exact ((HB4.out.al _).tr hb5).drwN _⟩
end Go.Proofs.Ytgcjangnlbhicaa.St
