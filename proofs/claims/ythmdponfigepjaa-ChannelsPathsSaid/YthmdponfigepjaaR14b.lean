/- The contract of the reference of layer 14: Before. -/
import Derived.Test.YthmdponfigepjaaR14a
namespace Go.Proofs.Ythmdponfigepjaa.R14
open Go.ChangeShapes Go.WideShapes Go.RowKit Wo Sr Wi Eu Ev
set_option linter.unusedVariables false
theorem idx0 (a b c d : Int) (w : World) : (Instr.index 83 (.agg #[.int .i64 a, .int .i64 b, .int .i64 c, .int .i64 d]) (.int .i64 0)).run Try.prog w = .ok (.agg #[.int .i64 a, .int .i64 b]) w := by
  simp [Instr.index, asIntOf, run_underlying Try.underlying83, go_sem]
theorem idx1 (a b c d : Int) (w : World) : (Instr.index 83 (.agg #[.int .i64 a, .int .i64 b, .int .i64 c, .int .i64 d]) (.int .i64 1)).run Try.prog w = .ok (.agg #[.int .i64 c, .int .i64 d]) w := by
  simp [Instr.index, asIntOf, run_underlying Try.underlying83, go_sem]
/-- the least of what was looked at -/
def mv (A B C : Int) : Nat → Int
  | 0 => A
  | 1 => mn A B
  | _ => mn3 A B C
set_option maxHeartbeats 2000000 in
set_option maxRecDepth 100000 in
theorem before_ok (g c n m i j : Nat) (b : Int) (F : Nat → List Int) (n1 : 1 ≤ n) (n2 : n ≤ 32) (m1 : 1 ≤ m) (m2 : m ≤ 32) (hi : i < n) (hj : j < m) (w : World) (h : TR w g n m F) :
    Calls Try.prog 65 #[.slice (some ⟨g, 0, none⟩) n c, .int .i64 b, .int .i64 (i : Int), .int .i64 (j : Int)] w fun e w' => ∃ P Q : Int, e = .returned (.agg #[.int .i64 P, .int .i64 Q]) ∧ atv n m b F P Q = mn3 (atv n m b F ((i : Int) - 1) ((j : Int) - 1)) (atv n m b F ((i : Int) - 1) (j : Int)) (atv n m b F (i : Int) ((j : Int) - 1)) ∧ -1 ≤ P ∧ P ≤ 32 ∧ -1 ≤ Q ∧ Q ≤ 32 ∧ Bel w w' := by
  have ii : (i : Int) ≤ 31 := by omega
  have ji : (j : Int) ≤ 31 := by omega
  obtain ⟨i1, hi1⟩ : ∃ z : Int, (i : Int) - 1 = z := ⟨_, rfl⟩
  obtain ⟨j1, hj1⟩ : ∃ z : Int, (j : Int) - 1 = z := ⟨_, rfl⟩
  obtain ⟨ix, hix⟩ : ∃ z : Int, (i : Int) = z := ⟨_, rfl⟩
  obtain ⟨jx, hjx⟩ : ∃ z : Int, (j : Int) = z := ⟨_, rfl⟩
  rw [hi1, hj1, hix, hjx]
  rw [hix] at hi1 ii
  rw [hjx] at hj1 ji
  have ix0 : 0 ≤ ix := by omega
  have jx0 : 0 ≤ jx := by omega
  have AK : Hid (∀ I J : Int, -1 ≤ I → I ≤ 32 → -1 ≤ J → J ≤ 32 → ∀ W, Bel w W → _) := fun I J a1 a2 a3 a4 W hW => at_ok g c n m b I J F n1 n2 m1 m2 (by omega) (by omega) (by omega) (by omega) W (h.bel hW)
  obtain ⟨A0, hA0⟩ : ∃ z, atv n m b F i1 j1 = z := ⟨_, rfl⟩
  obtain ⟨A1, hA1⟩ : ∃ z, atv n m b F i1 jx = z := ⟨_, rfl⟩
  obtain ⟨A2, hA2⟩ : ∃ z, atv n m b F ix j1 = z := ⟨_, rfl⟩
  have K1 : Hid (∀ W, Bel w W → _) := fun W hW => AK.out i1 jx (by omega) (by omega) (by omega) (by omega) W hW
  have K2 : Hid (∀ W, Bel w W → _) := fun W hW => AK.out ix j1 (by omega) (by omega) (by omega) (by omega) W hW
  rw [hA1] at K1
  rw [hA2] at K2
  rw [hA0, hA1, hA2]
  have H1 : Hid (i1 = ix - 1 ∧ j1 = jx - 1) := ⟨by omega, by omega⟩
  have HA := Lib.hid (And.intro hA0 (And.intro hA1 hA2))
  have HIB : Hid (-1 ≤ i1 ∧ i1 ≤ 32 ∧ -1 ≤ j1 ∧ j1 ≤ 32) := ⟨by omega, by omega, by omega, by omega⟩
  obtain ⟨W0, hW0⟩ : ∃ W0, W0 = (w.alloc (.cells #[.int .i64 0, .int .i64 0] 75)).alloc (.cells #[.int .i64 i1, .int .i64 j1] 75) := ⟨_, rfl⟩
  have HR0 : Hid (Bk W0 w.heap.size 75 #[.int .i64 0, .int .i64 0]) := by rw [hW0]; exact (Bk.nw _ _ _).al _
  have HR1 : Hid (Bk W0 (w.heap.size + 1) 75 #[.int .i64 i1, .int .i64 j1]) := by rw [hW0]; exact Bk.nq _ _ _ (by simp)
  have HB0 : Hid (Bel w W0) := by rw [hW0]; exact (Bel.rf.al _).al _
  have HW0 := Lib.hid hW0
  clear hW0 hA0 hA1 hA2 h hi hj hix hjx
  go_enter Try.func65, Try.ntmps65
  go_wp2
  rw [← HW0.out]
  go_loopw [26] (fun s26 wr => ∃ (k : Nat) (P Q : Int) (V : World), V = wr ∧ k ≤ 2 ∧ s26 = .int .i64 (k : Int) ∧ Bk wr w.heap.size 75 #[.int .i64 0, .int .i64 0] ∧ Bk wr (w.heap.size + 1) 75 #[.int .i64 P, .int .i64 Q] ∧ atv n m b F P Q = mv A0 A1 A2 k ∧ (-1 ≤ P ∧ P ≤ 32 ∧ -1 ≤ Q ∧ Q ≤ 32) ∧ Bel w wr) (fun s26 _ => 2 - (intOf s26).toNat)
  case atStart => exact ⟨0, i1, j1, _, rfl, by omega, rfl, HR0.out, HR1.out, HA.out.1, HIB.out, HB0.out⟩
  case round =>
    obtain ⟨k, P, Q, wr, hwr, hk, rfl, h0, h1, hv, hpq, hb⟩ := hrel
    subst hwr
    have HKR := Lib.hid (And.intro h0 h1)
    have HB := Lib.hid hb
    have HV := Lib.hid hv
    have HPQ := Lib.hid hpq
    clear h0 h1 hv hpq hb
    have X0 : ∀ W, _ := fun W => idx0 i1 jx ix j1 W
    have X1 : ∀ W, _ := fun W => idx1 i1 jx ix j1 W
    rcases (show k = 0 ∨ k = 1 ∨ k = 2 by omega) with rfl | rfl | rfl
    · obtain ⟨cur, hcur⟩ : ∃ z, mv A0 A1 A2 0 = z := ⟨_, rfl⟩
      obtain ⟨pq1, pq2, pq3, pq4⟩ := HPQ.out
      obtain ⟨ib1, ib2, ib3, ib4⟩ := HIB.out
      have ea0 := HA.out.2.1
      have ea1 := HA.out.2.2
      have ea2 := HV.out
      rw [hcur] at ea2
      have c0 := HKR.out.2.al (.cells #[.int .i64 i1, .int .i64 jx] 75)
      have e0 := c0.cell 0
      have e1 := c0.cell 1
      have c2 := Bk.nw wr 75 #[.int .i64 i1, .int .i64 jx]
      have e2 := c2.cell 0
      have e3 := c2.cell 1
      have f0 := c0.fr 0
      have f1 := c0.fr 1
      have HBA : Hid (Bel w (wr.alloc (.cells #[.int .i64 i1, .int .i64 jx] 75))) := HB.out.al _
      have HC := Lib.hid (And.intro (HKR.out.1.al (.cells #[.int .i64 i1, .int .i64 jx] 75)) c0)
      have HCUR := Lib.hid hcur
      clear c0 c2 hcur hk
      rcases Int.lt_or_le A1 cur with hl | hl
      · have d1 : decide (A1 < cur) = true := by simpa using hl
        have HM : Hid (atv n m b F i1 jx = mv A0 A1 A2 1) := by
          show _ = mn A0 A1
          rw [HA.out.2.1]
          have : A0 = cur := HCUR.out
          unfold mn
          rw [if_neg (by omega)]
        go_wp2
        go_quiet ((go_at_call 66; exact quiet_same (AK.out _ _ (by omega) (by omega) (by omega) (by omega) _ (HBA.out.drwN _))))
        go_wp2
        go_roundw
        case rel =>
          refine ⟨1, i1, jx, _, rfl, by omega, by first | rfl | go_num, ?_, ?_, HM.out, ⟨HIB.out.1, HIB.out.2.1, by omega, by omega⟩, ?_⟩
          · exact (((HC.out.1.drwN _).far (by show w.heap.size ≠ w.heap.size + 1; omega) _).far (by show w.heap.size ≠ w.heap.size + 1; omega) _)
          · exact ((HC.out.2.drwN _).st 0 _).st 1 _
          · exact ((HBA.out.drwN _).st (by show w.heap.size ≤ w.heap.size + 1; omega) _).st (by show w.heap.size ≤ w.heap.size + 1; omega) _
        case measure => simp [intOf]
      · have d1 : decide (A1 < cur) = false := by simpa using hl
        have d2 : ¬ A1 < cur := by omega
        have HM : Hid (atv n m b F P Q = mv A0 A1 A2 1) := by
          show _ = mn A0 A1
          rw [HV.out]
          have : A0 = cur := HCUR.out
          show A0 = _
          unfold mn
          rw [if_pos (by omega)]
        go_wp2
        go_quiet ((go_at_call 66; exact quiet_same (AK.out _ _ (by omega) (by omega) (by omega) (by omega) _ (HBA.out.drwN _))))
        go_wp2
        go_roundw
        case rel => exact ⟨1, P, Q, _, rfl, by omega, by first | rfl | go_num, HC.out.1.drwN _, HC.out.2.drwN _, HM.out, HPQ.out, HBA.out.drwN _⟩
        case measure => simp [intOf]
    · obtain ⟨cur, hcur⟩ : ∃ z, mv A0 A1 A2 1 = z := ⟨_, rfl⟩
      obtain ⟨pq1, pq2, pq3, pq4⟩ := HPQ.out
      obtain ⟨ib1, ib2, ib3, ib4⟩ := HIB.out
      have ea0 := HA.out.2.1
      have ea1 := HA.out.2.2
      have ea2 := HV.out
      rw [hcur] at ea2
      have c0 := HKR.out.2.al (.cells #[.int .i64 ix, .int .i64 j1] 75)
      have e0 := c0.cell 0
      have e1 := c0.cell 1
      have c2 := Bk.nw wr 75 #[.int .i64 ix, .int .i64 j1]
      have e2 := c2.cell 0
      have e3 := c2.cell 1
      have f0 := c0.fr 0
      have f1 := c0.fr 1
      have HBA : Hid (Bel w (wr.alloc (.cells #[.int .i64 ix, .int .i64 j1] 75))) := HB.out.al _
      have HC := Lib.hid (And.intro (HKR.out.1.al (.cells #[.int .i64 ix, .int .i64 j1] 75)) c0)
      have HCUR := Lib.hid hcur
      clear c0 c2 hcur hk
      rcases Int.lt_or_le A2 cur with hl | hl
      · have d1 : decide (A2 < cur) = true := by simpa using hl
        have HM : Hid (atv n m b F ix j1 = mv A0 A1 A2 2) := by
          show _ = mn3 A0 A1 A2
          rw [HA.out.2.2]
          have : mn A0 A1 = cur := HCUR.out
          unfold mn3
          rw [this]
          unfold mn
          rw [if_neg (by omega)]
        go_wp2
        go_quiet ((go_at_call 66; exact quiet_same (AK.out _ _ (by omega) (by omega) (by omega) (by omega) _ (HBA.out.drwN _))))
        go_wp2
        go_roundw
        case rel =>
          refine ⟨2, ix, j1, _, rfl, by omega, by first | rfl | go_num, ?_, ?_, HM.out, ⟨by omega, by omega, HIB.out.2.2.1, HIB.out.2.2.2⟩, ?_⟩
          · exact (((HC.out.1.drwN _).far (by show w.heap.size ≠ w.heap.size + 1; omega) _).far (by show w.heap.size ≠ w.heap.size + 1; omega) _)
          · exact ((HC.out.2.drwN _).st 0 _).st 1 _
          · exact ((HBA.out.drwN _).st (by show w.heap.size ≤ w.heap.size + 1; omega) _).st (by show w.heap.size ≤ w.heap.size + 1; omega) _
        case measure => simp [intOf]
      · have d1 : decide (A2 < cur) = false := by simpa using hl
        have d2 : ¬ A2 < cur := by omega
        have HM : Hid (atv n m b F P Q = mv A0 A1 A2 2) := by
          show _ = mn3 A0 A1 A2
          rw [HV.out]
          have : mn A0 A1 = cur := HCUR.out
          show mn A0 A1 = _
          unfold mn3
          rw [this]
          unfold mn
          rw [if_pos (by omega)]
        go_wp2
        go_quiet ((go_at_call 66; exact quiet_same (AK.out _ _ (by omega) (by omega) (by omega) (by omega) _ (HBA.out.drwN _))))
        go_wp2
        go_roundw
        case rel => exact ⟨2, P, Q, _, rfl, by omega, by first | rfl | go_num, HC.out.1.drwN _, HC.out.2.drwN _, HM.out, HPQ.out, HBA.out.drwN _⟩
        case measure => simp [intOf]
    · have k0 := HKR.out.1.cell 0
      have k1 := HKR.out.1.cell 1
      have q0 := HKR.out.2.cell 0
      have q1 := HKR.out.2.cell 1
      have g0 := HKR.out.1.fr 0
      have g1 := HKR.out.1.fr 1
      clear hk
      go_wp2
      refine bodyPost_ret (v := .agg #[.int .i64 P, .int .i64 Q]) (by simp [results, Try.results65, go_sem, k0, k1]) rfl ⟨P, Q, rfl, HV.out, HPQ.out.1, HPQ.out.2.1, HPQ.out.2.2.1, HPQ.out.2.2.2, ?_⟩
      exact (HB.out.st (by show w.heap.size ≤ w.heap.size; omega) _).st (by show w.heap.size ≤ w.heap.size; omega) _
end Go.Proofs.Ythmdponfigepjaa.R14
