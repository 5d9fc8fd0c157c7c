/- sketch.Gap of windows. -/
import Derived.Test.YtgdhgeongdenpaaSkU
namespace Go.Proofs.Ytgdhgeongdenpaa.Sk
open Go.ChangeShapes Go.WideShapes Go.RowKit Wo Sr Wi Nr Pc Eu Ra
set_option linter.unusedVariables false
def rat (a b : Int) : Value := .agg #[.int .i64 a, .int .i64 b]
set_option maxHeartbeats 16000000 in
set_option maxRecDepth 100000 in
theorem Gap_ok (a c b d m n : Nat) (X Y : List Int) (m2 : 2 ≤ m) (m32 : m ≤ 32) (n1 : 1 ≤ n) (n8 : n ≤ 8) (nm : n ≤ m) (hs : Sam X) (ht : Sam Y) (hX : X.length = m) (hY : Y.length = m) (w : World) (hz : Skz w a n m X) (hy : Skz w b n m Y) :
    Calls Try.prog 74 #[skv a c m n ((m : Int) * vr X), skv b d m n ((m : Int) * vr Y)] w fun e w' => e = .returned (.tuple #[rat (mN (vr X) (vr Y) (upv X Y m n)) (mD (vr X) (vr Y) (upv X Y m n)), .int .i64 0]) ∧ Bel w w' := by
  have UK : Hid (∀ W, Bel w W → Calls Try.prog 73 #[.agg #[.int .i64 (m : Int), .slice (some ⟨a, 0, none⟩) n c, .int .i64 ((m : Int) * vr X)], .agg #[.int .i64 (m : Int), .slice (some ⟨b, 0, none⟩) n d, .int .i64 ((m : Int) * vr Y)]] W fun e w' => e = .returned (.tuple #[.int .i64 (upv X Y m n), .int .i64 0]) ∧ Bel W w') := fun W hW => Upper_ok a c b d m n X Y m2 m32 n1 n8 nm hs ht hX hY W (hz.bel hW) (hy.bel hW)
  have ui := upv_in hX hY n1 nm n8 m2 m32 hs ht
  have v := vr_le hs (by omega)
  have u := vr_le ht (by omega)
  have ex := cen_en hX hs m32
  have ey := cen_en hY ht m32
  obtain ⟨V, hV⟩ : ∃ x, vr X = x := ⟨_, rfl⟩
  obtain ⟨U, hU⟩ : ∃ x, vr Y = x := ⟨_, rfl⟩
  obtain ⟨C, hC⟩ : ∃ x, upv X Y m n = x := ⟨_, rfl⟩
  rw [hV] at UK v ex
  rw [hU] at UK u ey
  rw [hC] at UK ui
  rw [hV, hU, hC]
  have g := gM_in C v.1 u.1 v.2 u.2
  have vl := m_vl C v.1 u.1 v.2 u.2
  have HMK : Hid (∀ W, Calls Try.prog 66 #[.int .i64 (gM V U C), .int .i64 (gD V U)] W fun e w' => e = .returned (.tuple #[.agg #[.int .i64 (mN V U C), .int .i64 (mD V U C)], .int .i64 0]) ∧ Bel W w') := fun W =>
    make_in (gM V U C) (gD V U) W g.1 g.2.2.1 (rin_yes vl.1.1) (by omega) (by omega)
  have vw := vw_le v.1 u.1 v.2 u.2
  obtain ⟨EX, hEX⟩ : ∃ x, (m : Int) * V = x := ⟨_, rfl⟩
  obtain ⟨EY, hEY⟩ : ∃ x, (m : Int) * U = x := ⟨_, rfl⟩
  rw [hEX] at UK ex
  rw [hEY] at UK ey
  rw [hEX, hEY]
  have q1 : EX.tdiv (m : Int) = V := by rw [← hEX]; exact Int.mul_tdiv_cancel_left _ (by omega)
  have q2 : EY.tdiv (m : Int) = U := by rw [← hEY]; exact Int.mul_tdiv_cancel_left _ (by omega)
  have i3 : (m : Int) ≤ 32 := by omega
  have i4 : 2 ≤ (m : Int) := by omega
  have i5 : m ≠ 0 := by omega
  obtain ⟨v0, v1⟩ := v
  obtain ⟨u0, u1⟩ := u
  obtain ⟨_, c0, c1⟩ := ui
  have wV : IntKind.i64.wrap V = V := IntWalk.i64_in _ (by omega)
  have wU : IntKind.i64.wrap U = U := IntWalk.i64_in _ (by omega)
  obtain ⟨vw0, vw1⟩ := vw
  unfold rat skv
  generalize mN V U C = X1 at *
  generalize mD V U C = X2 at *
  have cc : 0 ≤ C * C ∧ C * C ≤ 4410000000000000000 := by have := sq_bd (B := 2100000000) c0 c1; omega
  obtain ⟨cc0, cc1⟩ := cc
  have GN : (V = 0 → U = 0 → gM V U C = 0) ∧ (V = 0 → U ≠ 0 → gM V U C = 1) ∧ (V ≠ 0 → U = 0 → gM V U C = 1) ∧ (V ≠ 0 → U ≠ 0 → gM V U C = V * U - sqc C (V * U)) := by
    unfold gM
    refine ⟨fun h1 h2 => by rw [if_pos h1, if_pos h2], fun h1 h2 => by rw [if_pos h1, if_neg h2], fun h1 h2 => by rw [if_neg h1, if_pos h2], fun h1 h2 => by rw [if_neg h1, if_neg h2]⟩
  have GD : ((V = 0 ∨ U = 0) → gD V U = 1) ∧ (V ≠ 0 → U ≠ 0 → gD V U = V * U) := by
    unfold gD
    refine ⟨fun h => ?_, fun h1 h2 => by rw [if_neg h1, if_neg h2]⟩
    rcases h with h | h
    · rw [if_pos h]
    · split
      · rfl
      · rfl
  clear hz hy hs ht hX hY hV hU hC hEX hEY ex ey g vl
  go_enter Try.func74, Try.ntmps74
  have HB0 : Hid (Bel w (((w.alloc (.cells #[.int .i64 (m : Int), .slice (some ⟨a, 0, none⟩) n c, .int .i64 EX] 64)).alloc (.cells #[.int .i64 (m : Int), .slice (some ⟨b, 0, none⟩) n d, .int .i64 EY] 64)).alloc (.cells #[.int .i64 0, .int .i64 0] 69))) := ((Bel.rf.al _).al _).al _
  have HKA : Hid (Bk (((w.alloc (.cells #[.int .i64 (m : Int), .slice (some ⟨a, 0, none⟩) n c, .int .i64 EX] 64)).alloc (.cells #[.int .i64 (m : Int), .slice (some ⟨b, 0, none⟩) n d, .int .i64 EY] 64)).alloc (.cells #[.int .i64 0, .int .i64 0] 69)) w.heap.size 64 #[.int .i64 (m : Int), .slice (some ⟨a, 0, none⟩) n c, .int .i64 EX]) := ((Bk.nw _ _ _).al _).al _
  have HKB : Hid (Bk (((w.alloc (.cells #[.int .i64 (m : Int), .slice (some ⟨a, 0, none⟩) n c, .int .i64 EX] 64)).alloc (.cells #[.int .i64 (m : Int), .slice (some ⟨b, 0, none⟩) n d, .int .i64 EY] 64)).alloc (.cells #[.int .i64 0, .int .i64 0] 69)) (w.heap.size + 1) 64 #[.int .i64 (m : Int), .slice (some ⟨b, 0, none⟩) n d, .int .i64 EY]) := (Bk.nq _ _ _ (by simp)).al _
  have HKR : Hid (Bk (((w.alloc (.cells #[.int .i64 (m : Int), .slice (some ⟨a, 0, none⟩) n c, .int .i64 EX] 64)).alloc (.cells #[.int .i64 (m : Int), .slice (some ⟨b, 0, none⟩) n d, .int .i64 EY] 64)).alloc (.cells #[.int .i64 0, .int .i64 0] 69)) (w.heap.size + 1 + 1) 69 #[.int .i64 0, .int .i64 0]) := Bk.nq _ _ _ (by simp)
  go_wp2_with fail
  go_at_call 73
  refine (UK.out _ HB0.out).mono ?_
  rintro e w3 ⟨rfl, hb⟩
  have HB1 : Hid (Bel w w3) := HB0.out.tr hb
  have KA := HKA.out.bel hb
  have KB := HKB.out.bel hb
  have HR1 := Lib.hid (HKR.out.bel hb)
  have a0 : w3.cell? ⟨w.heap.size, 0, none⟩ = some (.int .i64 (m : Int)) := KA.cell 0
  have a2 : w3.cell? ⟨w.heap.size, 2, none⟩ = some (.int .i64 EX) := KA.cell 2
  have b0 : w3.cell? ⟨w.heap.size + 1, 0, none⟩ = some (.int .i64 (m : Int)) := KB.cell 0
  have b2 : w3.cell? ⟨w.heap.size + 1, 2, none⟩ = some (.int .i64 EY) := KB.cell 2
  have HGN := Lib.hid GN
  have HGD := Lib.hid GD
  clear hb KA KB HKA HKB HKR HB0 GN GD
  go_wp2
  go_quiet (fail)
  clear a0 a2 b0 b2
  rcases Classical.em (V = 0) with hv | hv
  · rcases Classical.em (U = 0) with hu | hu
    · have M1 := HMK.out
      rw [HGN.out.1 hv hu, HGD.out.1 (.inl hv)] at M1
      have HM := Lib.hid M1
      subst hv hu
      clear M1
      go_wp2_with fail
      go_at_call 66
      refine (HM.out _).mono ?_
      rintro e w4 ⟨rfl, hb4⟩
      have K4 := (HR1.out.drwN _).bel hb4
      have l0 : w4.cell? ⟨w.heap.size + 1 + 1, 0, none⟩ = some (.int .i64 0) := K4.cell 0
      have l1 : w4.cell? ⟨w.heap.size + 1 + 1, 1, none⟩ = some (.int .i64 0) := K4.cell 1
      have j0 := K4.fr 0
      have j1 := K4.fr 1
      have HF : Hid (Bel w w4) := (HB1.out.drwN _).tr hb4
      have hle : w.heap.size ≤ w.heap.size + 1 + 1 := by omega
      clear hb4 K4
      go_wp2
      refine bodyPost_ret (v := .tuple #[.agg #[.int .i64 X1, .int .i64 X2], .int .i64 0]) (by simp [results, Try.results74, go_sem, l0, l1]) rfl ⟨rfl, ?_⟩
      exact (HF.out.st hle _).st hle _
    · have M1 := HMK.out
      rw [HGN.out.2.1 hv hu, HGD.out.1 (.inl hv)] at M1
      have HM := Lib.hid M1
      have k2 : (U == 0) = false := by simpa using hu
      subst hv
      clear M1
      go_wp2_with fail
      go_at_call 66
      refine (HM.out _).mono ?_
      rintro e w4 ⟨rfl, hb4⟩
      have K4 := (HR1.out.drwN _).bel hb4
      have l0 : w4.cell? ⟨w.heap.size + 1 + 1, 0, none⟩ = some (.int .i64 0) := K4.cell 0
      have l1 : w4.cell? ⟨w.heap.size + 1 + 1, 1, none⟩ = some (.int .i64 0) := K4.cell 1
      have j0 := K4.fr 0
      have j1 := K4.fr 1
      have HF : Hid (Bel w w4) := (HB1.out.drwN _).tr hb4
      have hle : w.heap.size ≤ w.heap.size + 1 + 1 := by omega
      clear hb4 K4
      go_wp2
      refine bodyPost_ret (v := .tuple #[.agg #[.int .i64 X1, .int .i64 X2], .int .i64 0]) (by simp [results, Try.results74, go_sem, l0, l1]) rfl ⟨rfl, ?_⟩
      exact (HF.out.st hle _).st hle _
  · have k1 : (V == 0) = false := by simpa using hv
    rcases Classical.em (U = 0) with hu | hu
    · have M1 := HMK.out
      rw [HGN.out.2.2.1 hv hu, HGD.out.1 (.inr hu)] at M1
      have HM := Lib.hid M1
      subst hu
      clear M1
      go_wp2_with fail
      go_at_call 66
      refine (HM.out _).mono ?_
      rintro e w4 ⟨rfl, hb4⟩
      have K4 := (HR1.out.drwN _).bel hb4
      have l0 : w4.cell? ⟨w.heap.size + 1 + 1, 0, none⟩ = some (.int .i64 0) := K4.cell 0
      have l1 : w4.cell? ⟨w.heap.size + 1 + 1, 1, none⟩ = some (.int .i64 0) := K4.cell 1
      have j0 := K4.fr 0
      have j1 := K4.fr 1
      have HF : Hid (Bel w w4) := (HB1.out.drwN _).tr hb4
      have hle : w.heap.size ≤ w.heap.size + 1 + 1 := by omega
      clear hb4 K4
      go_wp2
      refine bodyPost_ret (v := .tuple #[.agg #[.int .i64 X1, .int .i64 X2], .int .i64 0]) (by simp [results, Try.results74, go_sem, l0, l1]) rfl ⟨rfl, ?_⟩
      exact (HF.out.st hle _).st hle _
    · have k2 : (U == 0) = false := by simpa using hu
      have M1 := HMK.out
      rw [HGN.out.2.2.2 hv hu, HGD.out.2 hv hu] at M1
      obtain ⟨W, hW⟩ : ∃ x, V * U = x := ⟨_, rfl⟩
      obtain ⟨C2, hC2⟩ : ∃ x, C * C = x := ⟨_, rfl⟩
      rw [hW] at M1 vw0 vw1
      rw [hC2] at cc0 cc1
      unfold sqc at M1
      rw [hC2] at M1
      have m1 : wrap64 (C * C) = C2 := by rw [hC2]; exact IntWalk.wrap64_in _ (by omega)
      have m2' : wrap64 (V * U) = W := by rw [hW]; exact IntWalk.wrap64_in _ (by omega)
      have mmin : 0 ≤ min C2 W ∧ min C2 W ≤ W := by omega
      rcases Int.lt_or_le C 0 with hc | hc
      · rw [if_pos hc] at M1
        have d1 : decide (C < 0) = true := decide_eq_true hc
        rcases Int.lt_trichotomy C2 W with h3 | h3 | h3
        · rw [Int.min_eq_left (by omega)] at M1
          rw [show W - -C2 = W + C2 by omega] at M1
          have HM := Lib.hid M1
          clear M1 hC2 hW mmin
          go_wp2_with fail
          go_at_call 66
          refine (HM.out _).mono ?_
          rintro e w4 ⟨rfl, hb4⟩
          have K4 := (HR1.out.drwN _).bel hb4
          have l0 : w4.cell? ⟨w.heap.size + 1 + 1, 0, none⟩ = some (.int .i64 0) := K4.cell 0
          have l1 : w4.cell? ⟨w.heap.size + 1 + 1, 1, none⟩ = some (.int .i64 0) := K4.cell 1
          have j0 := K4.fr 0
          have j1 := K4.fr 1
          have HF : Hid (Bel w w4) := (HB1.out.drwN _).tr hb4
          have hle : w.heap.size ≤ w.heap.size + 1 + 1 := by omega
          clear hb4 K4
          go_wp2
          refine bodyPost_ret (v := .tuple #[.agg #[.int .i64 X1, .int .i64 X2], .int .i64 0]) (by simp [results, Try.results74, go_sem, l0, l1]) rfl ⟨rfl, ?_⟩
          exact (HF.out.st hle _).st hle _
        · subst h3
          rw [Int.min_self] at M1
          rw [show C2 - -C2 = C2 + C2 by omega] at M1
          have HM := Lib.hid M1
          clear M1 hC2 hW mmin
          go_wp2_with fail
          go_at_call 66
          refine (HM.out _).mono ?_
          rintro e w4 ⟨rfl, hb4⟩
          have K4 := (HR1.out.drwN _).bel hb4
          have l0 : w4.cell? ⟨w.heap.size + 1 + 1, 0, none⟩ = some (.int .i64 0) := K4.cell 0
          have l1 : w4.cell? ⟨w.heap.size + 1 + 1, 1, none⟩ = some (.int .i64 0) := K4.cell 1
          have j0 := K4.fr 0
          have j1 := K4.fr 1
          have HF : Hid (Bel w w4) := (HB1.out.drwN _).tr hb4
          have hle : w.heap.size ≤ w.heap.size + 1 + 1 := by omega
          clear hb4 K4
          go_wp2
          refine bodyPost_ret (v := .tuple #[.agg #[.int .i64 X1, .int .i64 X2], .int .i64 0]) (by simp [results, Try.results74, go_sem, l0, l1]) rfl ⟨rfl, ?_⟩
          exact (HF.out.st hle _).st hle _
        · rw [Int.min_eq_right (by omega)] at M1
          rw [show W - -W = W + W by omega] at M1
          have HM := Lib.hid M1
          clear M1 hC2 hW mmin
          go_wp2_with fail
          go_at_call 66
          refine (HM.out _).mono ?_
          rintro e w4 ⟨rfl, hb4⟩
          have K4 := (HR1.out.drwN _).bel hb4
          have l0 : w4.cell? ⟨w.heap.size + 1 + 1, 0, none⟩ = some (.int .i64 0) := K4.cell 0
          have l1 : w4.cell? ⟨w.heap.size + 1 + 1, 1, none⟩ = some (.int .i64 0) := K4.cell 1
          have j0 := K4.fr 0
          have j1 := K4.fr 1
          have HF : Hid (Bel w w4) := (HB1.out.drwN _).tr hb4
          have hle : w.heap.size ≤ w.heap.size + 1 + 1 := by omega
          clear hb4 K4
          go_wp2
          refine bodyPost_ret (v := .tuple #[.agg #[.int .i64 X1, .int .i64 X2], .int .i64 0]) (by simp [results, Try.results74, go_sem, l0, l1]) rfl ⟨rfl, ?_⟩
          exact (HF.out.st hle _).st hle _
      · rw [if_neg (by omega)] at M1
        have d1 : decide (C < 0) = false := decide_eq_false (by omega)
        rcases Int.lt_trichotomy C2 W with h3 | h3 | h3
        · rw [Int.min_eq_left (by omega)] at M1
          rw [show W - C2 = W - C2 by omega] at M1
          have HM := Lib.hid M1
          clear M1 hC2 hW mmin
          go_wp2_with fail
          go_at_call 66
          refine (HM.out _).mono ?_
          rintro e w4 ⟨rfl, hb4⟩
          have K4 := (HR1.out.drwN _).bel hb4
          have l0 : w4.cell? ⟨w.heap.size + 1 + 1, 0, none⟩ = some (.int .i64 0) := K4.cell 0
          have l1 : w4.cell? ⟨w.heap.size + 1 + 1, 1, none⟩ = some (.int .i64 0) := K4.cell 1
          have j0 := K4.fr 0
          have j1 := K4.fr 1
          have HF : Hid (Bel w w4) := (HB1.out.drwN _).tr hb4
          have hle : w.heap.size ≤ w.heap.size + 1 + 1 := by omega
          clear hb4 K4
          go_wp2
          refine bodyPost_ret (v := .tuple #[.agg #[.int .i64 X1, .int .i64 X2], .int .i64 0]) (by simp [results, Try.results74, go_sem, l0, l1]) rfl ⟨rfl, ?_⟩
          exact (HF.out.st hle _).st hle _
        · subst h3
          rw [Int.min_self] at M1
          rw [show C2 - C2 = 0 by omega] at M1
          have HM := Lib.hid M1
          clear M1 hC2 hW mmin
          go_wp2_with fail
          go_at_call 66
          refine (HM.out _).mono ?_
          rintro e w4 ⟨rfl, hb4⟩
          have K4 := (HR1.out.drwN _).bel hb4
          have l0 : w4.cell? ⟨w.heap.size + 1 + 1, 0, none⟩ = some (.int .i64 0) := K4.cell 0
          have l1 : w4.cell? ⟨w.heap.size + 1 + 1, 1, none⟩ = some (.int .i64 0) := K4.cell 1
          have j0 := K4.fr 0
          have j1 := K4.fr 1
          have HF : Hid (Bel w w4) := (HB1.out.drwN _).tr hb4
          have hle : w.heap.size ≤ w.heap.size + 1 + 1 := by omega
          clear hb4 K4
          go_wp2
          refine bodyPost_ret (v := .tuple #[.agg #[.int .i64 X1, .int .i64 X2], .int .i64 0]) (by simp [results, Try.results74, go_sem, l0, l1]) rfl ⟨rfl, ?_⟩
          exact (HF.out.st hle _).st hle _
        · rw [Int.min_eq_right (by omega)] at M1
          rw [show W - W = 0 by omega] at M1
          have HM := Lib.hid M1
          clear M1 hC2 hW mmin
          go_wp2_with fail
          go_at_call 66
          refine (HM.out _).mono ?_
          rintro e w4 ⟨rfl, hb4⟩
          have K4 := (HR1.out.drwN _).bel hb4
          have l0 : w4.cell? ⟨w.heap.size + 1 + 1, 0, none⟩ = some (.int .i64 0) := K4.cell 0
          have l1 : w4.cell? ⟨w.heap.size + 1 + 1, 1, none⟩ = some (.int .i64 0) := K4.cell 1
          have j0 := K4.fr 0
          have j1 := K4.fr 1
          have HF : Hid (Bel w w4) := (HB1.out.drwN _).tr hb4
          have hle : w.heap.size ≤ w.heap.size + 1 + 1 := by omega
          clear hb4 K4
          go_wp2
          refine bodyPost_ret (v := .tuple #[.agg #[.int .i64 X1, .int .i64 X2], .int .i64 0]) (by simp [results, Try.results74, go_sem, l0, l1]) rfl ⟨rfl, ?_⟩
          exact (HF.out.st hle _).st hle _
end Go.Proofs.Ytgdhgeongdenpaa.Sk
