/- shapesearchref21.Same, shapesearchlaw21.awake. -/
import Derived.Test.YtgdhgeongdenpaaSkG
namespace Go.Proofs.Ytgdhgeongdenpaa.Sk
open Go.ChangeShapes Go.WideShapes Go.RowKit Wo Sr Wi Nr Pc Eu Ra
set_option linter.unusedVariables false
set_option maxHeartbeats 8000000 in
theorem same_yes (a c b d m n : Nat) (E : Int) (L : List Int) (hn : n ≤ 100) (w : World) (hz : Zi w (some ⟨a, 0, none⟩) n L) (hy : Zi w (some ⟨b, 0, none⟩) n L) :
    Calls Try.prog 75 #[skv a c m n E, skv b d m n E] w fun e w' => e = .returned (.bool true) ∧ Bel w w' := by
  have IK : Hid (∀ W, Bel w W → _) := fun W hW => ints_same (some ⟨a, 0, none⟩) (some ⟨b, 0, none⟩) c d n L (by omega) W (hz.bel hW) (hy.bel hW)
  have k1 : ((m : Int) == (m : Int)) = true := by simp
  have k2 : (E == E) = true := by simp
  have k3 := ne_self (m : Int)
  have k4 := ne_self E
  unfold skv
  clear hz hy
  go_enter Try.func75, Try.ntmps75
  have HB0 : Hid (Bel w ((w.alloc (.cells #[.int .i64 (m : Int), .slice (some ⟨a, 0, none⟩) n c, .int .i64 E] 64)).alloc (.cells #[.int .i64 (m : Int), .slice (some ⟨b, 0, none⟩) n d, .int .i64 E] 64))) := (Bel.rf.al _).al _
  go_wp2_with (go_at_call 25; refine (IK.out _ HB0.out).mono ?_; rintro e w9 ⟨rfl, hb⟩)
  go_ret
  exact ⟨rfl, HB0.out.tr hb⟩
theorem ex_fact : pls (cen [1, 2, 3, 4]) 4 2 = [-8, 8] ∧ vr [1, 2, 3, 4] = 20 ∧ vr [4, 3, 2, 1] = 20 ∧ upv [1, 2, 3, 4] [4, 3, 2, 1] 4 2 = -12 ∧ mN 20 20 (-12) = 34 ∧ mD 20 20 (-12) = 25 := by decide +kernel
theorem of_ex (hx : Nat) (X L : List Int) (E : Int) (hE : ((4 : Nat) : Int) * vr X = E) (hL : pls (cen X) 4 2 = L) (hs : Sam X) (w : World) (hz : Zi w (some ⟨hx, 0, none⟩) 4 X) :
    Calls Try.prog 27 #[.slice (some ⟨hx, 0, none⟩) 4 4, .int .i64 2] w fun e w' => ∃ h c', e = .returned (.tuple #[.agg #[.int .i64 4, .slice (some ⟨h, 0, none⟩) 2 c', .int .i64 E], .int .i64 0]) ∧ Skz w' h 2 4 X ∧ Bel w w' := by
  refine (Of_ok hx 4 4 2 X (by decide) (by decide) (by decide) (by decide) (by decide) (by decide) hs w hz).mono ?_
  rintro e w' ⟨h, c', rfl, _, _, z, hb⟩
  rw [hE]
  exact ⟨h, c', rfl, z, hb⟩
theorem up_ex (a c b d : Nat) (w : World) (hz : Skz w a 2 4 [1, 2, 3, 4]) (hy : Skz w b 2 4 [4, 3, 2, 1]) :
    Calls Try.prog 73 #[.agg #[.int .i64 4, .slice (some ⟨a, 0, none⟩) 2 c, .int .i64 80], .agg #[.int .i64 4, .slice (some ⟨b, 0, none⟩) 2 d, .int .i64 80]] w fun e w' => e = .returned (.tuple #[.int .i64 (-12), .int .i64 0]) ∧ Bel w w' := by
  have h := Upper_ok a c b d 4 2 [1, 2, 3, 4] [4, 3, 2, 1] (by decide) (by decide) (by decide) (by decide) (by decide) (sam_l (by decide)) (sam_l (by decide)) rfl rfl w hz hy
  rw [ex_fact.2.1, ex_fact.2.2.1, ex_fact.2.2.2.1] at h
  exact h
theorem gap_ex (a c b d : Nat) (w : World) (hz : Skz w a 2 4 [1, 2, 3, 4]) (hy : Skz w b 2 4 [4, 3, 2, 1]) :
    Calls Try.prog 74 #[.agg #[.int .i64 4, .slice (some ⟨a, 0, none⟩) 2 c, .int .i64 80], .agg #[.int .i64 4, .slice (some ⟨b, 0, none⟩) 2 d, .int .i64 80]] w fun e w' => e = .returned (.tuple #[.agg #[.int .i64 34, .int .i64 25], .int .i64 0]) ∧ Bel w w' := by
  have h := Gap_ok a c b d 4 2 [1, 2, 3, 4] [4, 3, 2, 1] (by decide) (by decide) (by decide) (by decide) (by decide) (sam_l (by decide)) (sam_l (by decide)) rfl rfl w hz hy
  rw [ex_fact.2.1, ex_fact.2.2.1, ex_fact.2.2.2.1, ex_fact.2.2.2.2.1, ex_fact.2.2.2.2.2] at h
  exact h
set_option maxHeartbeats 8000000 in
set_option maxRecDepth 100000 in
theorem awake_any (w : World) : Calls Try.prog 32 #[] w fun e w' => e = .returned (.bool true) ∧ Bel w w' := by
  have HP : Hid (pls (cen [1, 2, 3, 4]) 4 2 = [-8, 8]) := ex_fact.1
  go_enter Try.func32, Try.ntmps32
  go_wp2_with fail
  go_at_call 27
  refine (of_ex _ [1, 2, 3, 4] _ 80 (by decide +kernel) rfl (sam_l (by decide)) _ (zi_bk (Bk.nw w 3 _) 4 rfl)).mono ?_
  rintro e w1 ⟨h1, c1, rfl, hz1, hb1⟩
  have HB1 : Hid (Bel w (w1.alloc (.cells #[.int .i64 4, .slice (some ⟨h1, 0, none⟩) 2 c1, .int .i64 80] 64))) := ((Bel.rf.al _).tr hb1).al _
  have HZ1 : Hid (Skz (w1.alloc (.cells #[.int .i64 4, .slice (some ⟨h1, 0, none⟩) 2 c1, .int .i64 80] 64)) h1 2 4 [1, 2, 3, 4]) := hz1.bel (Bel.rf.al _)
  have HKA : Hid (Bk (w1.alloc (.cells #[.int .i64 4, .slice (some ⟨h1, 0, none⟩) 2 c1, .int .i64 80] 64)) w1.heap.size 64 #[.int .i64 4, .slice (some ⟨h1, 0, none⟩) 2 c1, .int .i64 80]) := Bk.nw _ _ _
  clear hb1 hz1
  go_wp2_with fail
  go_at_call 27
  refine (of_ex _ [4, 3, 2, 1] _ 80 (by decide +kernel) rfl (sam_l (by decide)) _ (zi_bk (Bk.nq _ 3 _ (by simp)) 4 rfl)).mono ?_
  rintro e w2 ⟨h2, c2, rfl, hz2, hb2⟩
  have HB2 : Hid (Bel w (w2.alloc (.cells #[.int .i64 4, .slice (some ⟨h2, 0, none⟩) 2 c2, .int .i64 80] 64))) := ((HB1.out.al _).tr hb2).al _
  have HZ1' : Hid (Skz (w2.alloc (.cells #[.int .i64 4, .slice (some ⟨h2, 0, none⟩) 2 c2, .int .i64 80] 64)) h1 2 4 [1, 2, 3, 4]) := HZ1.out.bel (((Bel.rf.al _).tr hb2).al _)
  have HZ2 : Hid (Skz (w2.alloc (.cells #[.int .i64 4, .slice (some ⟨h2, 0, none⟩) 2 c2, .int .i64 80] 64)) h2 2 4 [4, 3, 2, 1]) := hz2.bel (Bel.rf.al _)
  have KA : Bk w2 w1.heap.size 64 #[.int .i64 4, .slice (some ⟨h1, 0, none⟩) 2 c1, .int .i64 80] := HKA.out.bel ((Bel.rf.al _).tr hb2)
  have HKA2 : Hid (Bk (w2.alloc (.cells #[.int .i64 4, .slice (some ⟨h2, 0, none⟩) 2 c2, .int .i64 80] 64)) w1.heap.size 64 #[.int .i64 4, .slice (some ⟨h1, 0, none⟩) 2 c1, .int .i64 80]) := KA.al _
  have HKB2 : Hid (Bk (w2.alloc (.cells #[.int .i64 4, .slice (some ⟨h2, 0, none⟩) 2 c2, .int .i64 80] 64)) w2.heap.size 64 #[.int .i64 4, .slice (some ⟨h2, 0, none⟩) 2 c2, .int .i64 80]) := Bk.nw _ _ _
  have a0 : w2.cell? ⟨w1.heap.size, 0, none⟩ = some (.int .i64 4) := KA.cell 0
  have a1 : w2.cell? ⟨w1.heap.size, 1, none⟩ = some (.slice (some ⟨h1, 0, none⟩) 2 c1) := KA.cell 1
  have a2 : w2.cell? ⟨w1.heap.size, 2, none⟩ = some (.int .i64 80) := KA.cell 2
  have al := KA.lt
  clear hb2 hz2 KA HZ1 HKA HB1
  go_wp2_with fail
  go_at_call 73
  refine (up_ex h1 c1 h2 c2 _ HZ1'.out HZ2.out).mono ?_
  rintro e w3 ⟨rfl, hb3⟩
  have HB3 : Hid (Bel w w3) := HB2.out.tr hb3
  have HZ13 := Lib.hid (HZ1'.out.bel hb3)
  have HZ23 := Lib.hid (HZ2.out.bel hb3)
  have KA := HKA2.out.bel hb3
  have KB := HKB2.out.bel hb3
  have HKA3 := Lib.hid KA
  have a0 : w3.cell? ⟨w1.heap.size, 0, none⟩ = some (.int .i64 4) := KA.cell 0
  have a1 : w3.cell? ⟨w1.heap.size, 1, none⟩ = some (.slice (some ⟨h1, 0, none⟩) 2 c1) := KA.cell 1
  have a2 : w3.cell? ⟨w1.heap.size, 2, none⟩ = some (.int .i64 80) := KA.cell 2
  have b0 : w3.cell? ⟨w2.heap.size, 0, none⟩ = some (.int .i64 4) := KB.cell 0
  have b1 : w3.cell? ⟨w2.heap.size, 1, none⟩ = some (.slice (some ⟨h2, 0, none⟩) 2 c2) := KB.cell 1
  have b2 : w3.cell? ⟨w2.heap.size, 2, none⟩ = some (.int .i64 80) := KB.cell 2
  have al := KA.lt
  have bl := KB.lt
  clear hb3 KA KB HKA2 HKB2 HZ1' HZ2 HB2
  go_wp2_with fail
  go_at_call 74
  refine (gap_ex h1 c1 h2 c2 _ HZ13.out HZ23.out).mono ?_
  rintro e w4 ⟨rfl, hb4⟩
  have HB4 : Hid (Bel w (w4.alloc (.cells #[.int .i64 34, .int .i64 25] 69))) := (HB3.out.tr hb4).al _
  have KR : Bk (w4.alloc (.cells #[.int .i64 34, .int .i64 25] 69)) w4.heap.size 69 #[.int .i64 34, .int .i64 25] := Bk.nw _ _ _
  have HKR := Lib.hid KR
  have HZ14 : Hid (Zi (w4.alloc (.cells #[.int .i64 34, .int .i64 25] 69)) (some ⟨h1, 0, none⟩) 2 [-8, 8]) := by
    have := HZ13.out.bel (hb4.al (.cells #[.int .i64 34, .int .i64 25] 69))
    unfold Skz at this
    rw [HP.out] at this
    exact this
  have KA := HKA3.out.bel hb4
  have a0 : w4.cell? ⟨w1.heap.size, 0, none⟩ = some (.int .i64 4) := KA.cell 0
  have a1 : w4.cell? ⟨w1.heap.size, 1, none⟩ = some (.slice (some ⟨h1, 0, none⟩) 2 c1) := KA.cell 1
  have a2 : w4.cell? ⟨w1.heap.size, 2, none⟩ = some (.int .i64 80) := KA.cell 2
  have al := KA.lt
  clear hb4 KA KR HZ13 HZ23 HB3 HKA3 HP
  go_wp2_with fail
  go_at_call 75
  refine (same_yes h1 c1 _ 2 4 2 80 [-8, 8] (by decide) _ (HZ14.out.bel (Bel.rf.al _)) (zi_bk (Bk.nq _ 3 _ (by simp)) 2 rfl)).mono ?_
  rintro e w5 ⟨rfl, hb5⟩
  have HB5 : Hid (Bel w w5) := (HB4.out.al _).tr hb5
  have KR := HKR.out.bel ((Bel.rf.al _).tr hb5)
  have r0 : w5.cell? ⟨w4.heap.size, 0, none⟩ = some (.int .i64 34) := KR.cell 0
  have r1 : w5.cell? ⟨w4.heap.size, 1, none⟩ = some (.int .i64 25) := KR.cell 1
  clear hb5 KR
  go_wp2
  go_ret
  exact ⟨rfl, HB5.out⟩
end Go.Proofs.Ytgdhgeongdenpaa.Sk
