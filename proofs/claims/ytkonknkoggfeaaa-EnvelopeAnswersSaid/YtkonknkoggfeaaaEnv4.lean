/- shapesearchlaw20.awake. -/
import Derived.Test.YtkonknkoggfeaaaEnv3
namespace Go.Proofs.Ytkonknkoggfeaaa.Ev
open Go.ChangeShapes Go.WideShapes Go.RowKit Wo Sr Wi Eu Pc Ra
set_option linter.unusedVariables false
theorem sam_d {L : List Int} (h : L.all (fun x => decide (-1000 ≤ x ∧ x ≤ 1000)) = true) : Sam L := fun x hx => by
  have := List.all_eq_true.1 h x hx
  simpa using this
theorem env_ex : Env [0, 0, 5] 1 3 [0, 5, 5] [0, 0, 0] := by
  have a0 : ∀ i, i < 3 → Bnd 1 i 0 → ([0, 0, 5] : List Int).getD i 0 ≤ 0 := by decide
  have a1 : ∀ i, i < 3 → Bnd 1 i 1 → ([0, 0, 5] : List Int).getD i 0 ≤ 5 := by decide
  have a2 : ∀ i, i < 3 → Bnd 1 i 2 → ([0, 0, 5] : List Int).getD i 0 ≤ 5 := by decide
  have b0 : ∀ i, i < 3 → Bnd 1 i 0 → 0 ≤ ([0, 0, 5] : List Int).getD i 0 := by decide
  have b1 : ∀ i, i < 3 → Bnd 1 i 1 → 0 ≤ ([0, 0, 5] : List Int).getD i 0 := by decide
  have b2 : ∀ i, i < 3 → Bnd 1 i 2 → 0 ≤ ([0, 0, 5] : List Int).getD i 0 := by decide
  refine ⟨rfl, rfl, fun j hj => ?_⟩
  rcases (show j = 0 ∨ j = 1 ∨ j = 2 by omega) with rfl | rfl | rfl
  · exact ⟨⟨⟨0, by decide, by decide, rfl⟩, a0⟩, ⟨⟨0, by decide, by decide, rfl⟩, b0⟩⟩
  · exact ⟨⟨⟨2, by decide, by decide, rfl⟩, a1⟩, ⟨⟨0, by decide, by decide, rfl⟩, b1⟩⟩
  · exact ⟨⟨⟨2, by decide, by decide, rfl⟩, a2⟩, ⟨⟨1, by decide, by decide, rfl⟩, b2⟩⟩
theorem vl_163 : Vl 16 3 64 12 := ⟨⟨⟨by decide, by decide, by decide, by decide⟩, by decide +kernel⟩, by decide⟩
set_option maxHeartbeats 4000000 in
set_option maxRecDepth 100000 in
theorem awake_any (w : World) : Calls Try.prog 4 #[] w fun e w' => e = .returned (.bool true) ∧ Bel w w' := by
  have g1 : kv [0, 5, 9] [0, 5, 5] [0, 0, 0] = 16 := by decide +kernel
  have g2 : tq (fun k => (pp [0, 5, 9] [0, 5, 5] [0, 0, 0] 3 1).getD k 0 * (pp [0, 5, 9] [0, 5, 5] [0, 0, 0] 3 1).getD k 0 * wq (3 / 1) (st 3 1 (k + 1) - st 3 1 k)) 1 = 64 := by decide +kernel
  have g3 : cq 3 1 = 12 := by decide +kernel
  have GG := Lib.hid (And.intro g1 (And.intro g2 g3))
  clear g1 g2 g3
  have sX : Sam [0, 0, 5] := sam_d (by decide)
  have sY : Sam [0, 5, 9] := sam_d (by decide)
  obtain ⟨W0, hW0⟩ : ∃ W0, W0 = (w.alloc (.cells #[.int .i64 0, .int .i64 0, .int .i64 5] 3)).alloc (.cells #[.int .i64 0, .int .i64 5, .int .i64 9] 3) := ⟨_, rfl⟩
  have HX : Hid (Zi W0 (some ⟨w.heap.size, 0, none⟩) 3 [0, 0, 5]) := by rw [hW0]; exact zi_bk ((Bk.nw w 3 _).al _) 3 rfl
  have HY : Hid (Zi W0 (some ⟨w.heap.size + 1, 0, none⟩) 3 [0, 5, 9]) := by rw [hW0]; exact zi_bk (Bk.nq _ 3 _ (by simp)) 3 rfl
  have HB0 : Hid (Bel w W0) := by rw [hW0]; exact (Bel.rf.al _).al _
  have HW0 := Lib.hid hW0
  clear hW0
  go_enter Try.func4, Try.ntmps4
  go_wp2_with fail
  rw [← HW0.out]
  go_at_call 9
  refine (of_ok ⟨w.heap.size, 0, none⟩ 3 3 3 [0, 0, 5] 1 (by decide) (by decide) (by decide) (by decide) (by decide) (by decide) (by decide) (by decide) sX _ HX.out).mono ?_
  rintro e w1 ⟨gu, gl, U, Lo, rfl, he, hu, hl, hb⟩
  obtain ⟨rfl, rfl⟩ := he.eq env_ex
  have HB1 := Lib.hid (HB0.out.tr hb)
  have HX1 := Lib.hid (HX.out.bel hb)
  have HY1 := Lib.hid (HY.out.bel hb)
  have HU := Lib.hid (And.intro hu hl)
  clear hb he hu hl HX HY
  go_wp2_with fail
  go_at_call 12
  refine (keogh_ok ⟨w.heap.size, 0, none⟩ ⟨w.heap.size + 1, 0, none⟩ 3 3 3 3 [0, 0, 5] [0, 5, 9] 1 (by decide) (by decide) (by decide) (by decide) (by decide) (by decide) (by decide) (by decide) sX sY _ HX1.out HY1.out).mono ?_
  rintro e w2 ⟨U2, L2, rfl, he, hb⟩
  obtain ⟨rfl, rfl⟩ := he.eq env_ex
  rw [GG.out.1]
  have HB2 := Lib.hid (HB1.out.tr hb)
  have HX2 := Lib.hid (HX1.out.bel hb)
  have HY2 := Lib.hid (HY1.out.bel hb)
  have HU2 := Lib.hid (And.intro (HU.out.1.bel hb) (HU.out.2.bel hb))
  clear hb he HX1 HY1 HU
  go_wp2_with fail
  go_at_call 17
  refine (pieces_ok ⟨w.heap.size, 0, none⟩ ⟨w.heap.size + 1, 0, none⟩ 3 3 3 3 1 [0, 0, 5] [0, 5, 9] 1 (by decide) (by decide) (by decide) (by decide) (by decide) (by decide) (by decide) (by decide) (by decide) (by decide) (by decide) (by decide) sX sY _ HX2.out HY2.out).mono ?_
  rintro e w3 ⟨U3, L3, t, u, rfl, he, hv, hb⟩
  obtain ⟨rfl, rfl⟩ := he.eq env_ex
  rw [GG.out.2.1, GG.out.2.2] at hv
  obtain ⟨rfl, rfl⟩ := vl_eq (C := 12) (by decide) hv vl_163
  have HB3 := Lib.hid (HB2.out.tr hb)
  have HU3 := Lib.hid (And.intro (HU2.out.1.bel hb) (HU2.out.2.bel hb))
  clear hb he hv HX2 HY2 HU2
  have HK3 : Hid (∀ W, Bel (w3.alloc (.cells #[.int .i64 16, .int .i64 3] 39)) W → Bk W w3.heap.size 39 #[.int .i64 16, .int .i64 3]) := fun W h => (Bk.nw _ _ _).bel h
  have hB3' : Hid (Bel w (w3.alloc (.cells #[.int .i64 16, .int .i64 3] 39))) := HB3.out.al _
  go_wp2_with fail
  go_at_call 11
  refine (ints_same (some ⟨gu, 0, none⟩) (some ⟨w3.heap.size + 1, 0, none⟩) 3 3 3 [0, 5, 5] (by decide) _ ((HU3.out.1.bel (Bel.rf.al _)).bel (Bel.rf.al _)) (zi_bk (Bk.nq _ 3 _ (by simp)) 3 rfl)).mono ?_
  rintro e w4 ⟨rfl, hb⟩
  have HB4 : Hid (Bel w w4) := (hB3'.out.al _).tr hb
  have HK4 := HK3.out _ ((Bel.rf.al _).tr hb)
  have HZ4 := Lib.hid (((HU3.out.2.bel (Bel.rf.al _)).bel (Bel.rf.al _)).bel hb)
  have HKK := Lib.hid HK4
  clear hb HK4 HK3 HU3
  go_wp2_with fail
  go_at_call 11
  refine (ints_same (some ⟨gl, 0, none⟩) (some ⟨w4.heap.size, 0, none⟩) 3 3 3 [0, 0, 0] (by decide) _ (HZ4.out.bel (Bel.rf.al _)) (zi_bk (Bk.nq _ 3 _ (by simp)) 3 rfl)).mono ?_
  rintro e w5 ⟨rfl, hb⟩
  have HB5 : Hid (Bel w w5) := (HB4.out.al _).tr hb
  have HK5 := (HKK.out.al (.cells #[.int .i64 0, .int .i64 0, .int .i64 0] 3)).bel hb
  have y0 := HK5.cell 0
  have y1 := HK5.cell 1
  clear hb HK5
  go_wp2
  go_ret
  exact ⟨rfl, HB5.out⟩
end Go.Proofs.Ytkonknkoggfeaaa.Ev
