/- The contracts of shapesearchlaw13.spread and awake. -/
import Derived.Test.YthmdponfigepjaaNor
namespace Go.Proofs.Ythmdponfigepjaa.Nr
open Go.ChangeShapes Go.WideShapes Go.RowKit Wo Sr Wi Ra Eu
set_option linter.unusedVariables false
theorem Bd.at {B : Int} {L : List Int} (h : Bd B L) (i : Nat) (hB : 0 ≤ B) : -B ≤ L.getD i 0 ∧ L.getD i 0 ≤ B := by
  rcases Nat.lt_or_ge i L.length with hi | hi
  · rw [List.getD_eq_getElem?_getD, List.getElem?_eq_getElem hi]
    exact h _ (List.getElem_mem hi)
  · rw [List.getD_eq_getElem?_getD, List.getElem?_eq_none hi]
    simp; omega
theorem ne_no {x y : Int} (h : x ≠ y) : (x != y) = true := by simpa using h
set_option maxHeartbeats 4000000 in
theorem spread_ok (h c n : Nat) (L : List Int) (n1 : 1 ≤ n) (n2 : n ≤ 32) (w : World) (h1 : Zi w (some ⟨h, 0, none⟩) n L) :
    Calls Try.prog 15 #[.slice (some ⟨h, 0, none⟩) n c] w fun e w' => e = .returned (.bool (decide (vr L ≠ 0))) ∧ Bel w w' := by
  have H1 := Lib.hid h1
  have hl := h1.1
  have i0 : 0 < n := n1
  have i1 : (0 : Int) < (n : Int) := by omega
  have i2 : (n : Int) ≤ 32 := by omega
  clear h1
  go_enter Try.func15, Try.ntmps15
  go_wp2
  go_loopw [6] (fun s6 wr => ∃ (k : Nat) (V : World), V = wr ∧ k ≤ n ∧ s6 = .int .i64 (k : Int) ∧ (∀ j, j < k → L.getD j 0 = L.getD 0 0) ∧ Bel w wr) (fun s6 _ => n - (intOf s6).toNat)
  case atStart => exact ⟨0, _, rfl, by omega, rfl, fun j hj => by omega, Bel.rf⟩
  case round =>
    obtain ⟨k, wr, hwr, hk, rfl, hall, hb⟩ := hrel
    subst hwr
    have HB := Lib.hid hb
    have HAL := Lib.hid hall
    rcases Nat.lt_or_ge k n with hlt | hge
    · have c1 := (H1.out.bel hb).at k hlt
      have c0 := (H1.out.bel hb).at 0 i0
      have HV := Lib.hid (vr_two L k (by omega))
      obtain ⟨x, hx⟩ : ∃ x, L.getD k 0 = x := ⟨_, rfl⟩
      obtain ⟨y, hy⟩ : ∃ x, L.getD 0 0 = x := ⟨_, rfl⟩
      rw [hx] at c1 HV
      rw [hy] at c0 HV
      have ki : (k : Int) < (n : Int) := by omega
      have HXY := Lib.hid (And.intro hx hy)
      clear hb hx hy hall
      rcases Classical.em (x = y) with rfl | hxy
      · have kn := ne_self x
        go_wp2
        go_quiet (fail)
        go_wp2
        go_roundw
        case rel => exact ⟨k + 1, _, rfl, by omega, by go_num, fun j hj => by
          rcases Nat.lt_or_ge j k with h | h
          · exact HAL.out j h
          · obtain rfl : j = k := by omega
            rw [HXY.out.1, HXY.out.2], HB.out.drwN _⟩
        case measure => simp [intOf]; omega
      · have kn := ne_no hxy
        have HD : Hid (decide (vr L ≠ 0) = true) := by
          have h3 := HV.out
          have h4 : 0 < (x - y) * (x - y) := by
            rcases Int.lt_or_le x y with g | g
            · have := Int.mul_pos (show 0 < y - x by omega) (show 0 < y - x by omega)
              have e : (y - x) * (y - x) = (x - y) * (x - y) := by grind
              omega
            · exact Int.mul_pos (by omega) (by omega)
          show _ = _
          simp; omega
        go_wp2
        go_quiet (fail)
        go_wp2
        go_ret
        exact ⟨by rw [HD.out]; rfl, HB.out.drwN _⟩
    · obtain rfl : k = n := by omega
      have HD : Hid (decide (vr L ≠ 0) = false) := by
        show _ = _
        have := vr_same L (fun i hi => HAL.out i (by omega))
        simp [this]
      clear hb hall
      go_wp2
      go_ret
      exact ⟨by rw [HD.out]; rfl, HB.out⟩
set_option maxHeartbeats 8000000 in
set_option maxRecDepth 100000 in
theorem awake_any (w : World) : Calls Try.prog 17 #[] w fun e w' => e = .returned (.bool true) ∧ Bel w w' := by
  have g1 : gv [1, 2, 3] [1, 3, 2] = .agg #[.int .i64 3, .int .i64 4] := by
    unfold gv
    rw [show rN (vr [1, 2, 3]) (vr [1, 3, 2]) (pr [1, 2, 3] [1, 3, 2]) = 3 by decide +kernel, show rD (vr [1, 2, 3]) (vr [1, 3, 2]) (pr [1, 2, 3] [1, 3, 2]) = 4 by decide +kernel]
  have g2 : gv [1, 2, 3] [3, 2, 1] = .agg #[.int .i64 2, .int .i64 1] := by
    unfold gv
    rw [show rN (vr [1, 2, 3]) (vr [3, 2, 1]) (pr [1, 2, 3] [3, 2, 1]) = 2 by decide +kernel, show rD (vr [1, 2, 3]) (vr [3, 2, 1]) (pr [1, 2, 3] [3, 2, 1]) = 1 by decide +kernel]
  have g3 : cen [1, 2, 6] = [-6, -3, 9] := by decide +kernel
  have GG := Lib.hid (And.intro g1 (And.intro g2 g3))
  clear g1 g2 g3
  go_enter Try.func17, Try.ntmps17
  go_wp2_with fail
  go_at_call 11
  refine (Gap_ok _ _ 3 3 3 [1, 2, 3] [1, 3, 2] (by decide) (by decide) (sam_l (by decide)) (sam_l (by decide)) _ (zi_bk ((Bk.nw w 3 _).al _) 3 rfl) (zi_bk (Bk.nq _ 3 _ (by simp)) 3 rfl)).mono ?_
  rintro e w1 ⟨rfl, hb1⟩
  rw [GG.out.1]
  have HB1 : Hid (Bel w w1) := ((Bel.rf.al _).al _).tr hb1
  clear hb1
  have HK1 : Hid (∀ w2, Bel (w1.alloc (.cells #[.int .i64 3, .int .i64 4] 28)) w2 → Bk w2 w1.heap.size 28 #[.int .i64 3, .int .i64 4]) := fun w2 h => (Bk.nw _ _ _).bel h
  go_wp2_with fail
  go_at_call 11
  refine (Gap_ok _ _ 3 3 3 [1, 2, 3] [3, 2, 1] (by decide) (by decide) (sam_l (by decide)) (sam_l (by decide)) _ (zi_bk ((Bk.nq _ 3 _ (by simp)).al _) 3 rfl) (zi_bk (Bk.nq _ 3 _ (by simp)) 3 rfl)).mono ?_
  rintro e w2 ⟨rfl, hb2⟩
  rw [GG.out.2.1]
  have HB2 : Hid (Bel w w2) := (((HB1.out.al _).al _).al _).tr hb2
  have HK2 : Hid (Bk w2 w1.heap.size 28 #[.int .i64 3, .int .i64 4]) := (((Bk.nw _ _ _).al _).al _).bel hb2
  clear hb2 HK1
  go_wp2_with fail
  go_at_call 35
  refine (Centred_ok _ 3 3 [1, 2, 6] (by decide) (by decide) (sam_l (by decide)) _ (zi_bk (Bk.nq _ 3 _ (by simp)) 3 rfl)).mono ?_
  rintro e w3 ⟨q, rfl, hq, hbk, hb3⟩
  rw [GG.out.2.2] at hbk
  have HB3 : Hid (Bel w w3) := ((HB2.out.al _).al _).tr hb3
  have K1 : Bk w3 w1.heap.size 28 #[.int .i64 3, .int .i64 4] := ((HK2.out.al _).al _).bel hb3
  have K2 : Bk w3 w2.heap.size 28 #[.int .i64 2, .int .i64 1] := ((Bk.nw _ _ _).al _).bel hb3
  have l0 : w3.cell? ⟨w1.heap.size, 0, none⟩ = some (.int .i64 3) := K1.cell 0
  have l1 : w3.cell? ⟨w1.heap.size, 1, none⟩ = some (.int .i64 4) := K1.cell 1
  have l2 : w3.cell? ⟨w2.heap.size, 0, none⟩ = some (.int .i64 2) := K2.cell 0
  have l3 : w3.cell? ⟨w2.heap.size, 1, none⟩ = some (.int .i64 1) := K2.cell 1
  have HQ := Lib.hid hbk
  clear hbk hb3 K1 K2
  go_wp2_with (go_at_call 36; refine (ints_same _ (some ⟨w3.heap.size, 0, none⟩) 3 3 3 [-6, -3, 9] (by decide) _ (zi_bk (HQ.out.al _) 3 rfl) (zi_bk (Bk.nw _ 3 _) 3 rfl)).mono ?_; rintro e w4 ⟨rfl, hb4⟩)
  go_ret
  exact ⟨rfl, (HB3.out.al _).tr hb4⟩
end Go.Proofs.Ythmdponfigepjaa.Nr
