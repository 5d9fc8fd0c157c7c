/- The contract of shapesearchref18.Squares. -/
import Derived.Test.YtkonknkoggfeaaaR18
namespace Go.Proofs.Ytkonknkoggfeaaa.R18
open Go.ChangeShapes Go.WideShapes Go.RowKit Wo Sr Wi Eu Pc Ra Ev
set_option linter.unusedVariables false
set_option maxHeartbeats 2000000 in
set_option maxRecDepth 100000 in
theorem squares_ok (hd ha c ca m n : Nat) (D : List Int) (un : Int) (m1 : 2 ≤ m) (m2 : m ≤ 32) (n1 : 1 ≤ n) (n8 : n ≤ 8) (nm : n ≤ m) (bD : Bd 4096000 D) (u1 : 1 ≤ un) (u2 : un ≤ 1024) (w : World) (h1 : Zi w (some ⟨hd, 0, none⟩) n D) (h2 : Zi w (some ⟨ha, 0, none⟩) (n + 1) (sts m n)) :
    Calls Try.prog 56 #[.slice (some ⟨hd, 0, none⟩) n c, .slice (some ⟨ha, 0, none⟩) (n + 1) ca, .int .i64 un] w fun e w' => ∃ t u, e = .returned (.agg #[.int .i64 t, .int .i64 u]) ∧ Vl t u (tq (fun k => D.getD k 0 * D.getD k 0 * wq (m / n) (st m n (k + 1) - st m n k)) n) (cq m n * un) ∧ Bel w w' := by
  obtain ⟨f, hf⟩ : ∃ f : Nat → Int, (fun k => D.getD k 0 * D.getD k 0 * wq (m / n) (st m n (k + 1) - st m n k)) = f := ⟨_, rfl⟩
  have hfb : ∀ k, k < n → 0 ≤ f k ∧ f k ≤ 553648128000000 := fun k hk => by
    have hD : -4096000 ≤ D.getD k 0 ∧ D.getD k 0 ≤ 4096000 := by
      rw [List.getD_eq_getElem?_getD, List.getElem?_eq_getElem (show k < D.length by rw [h1.1]; exact hk), Option.getD_some]
      exact bD _ (List.getElem_mem _)
    have a := sq_bd (B := 4096000) hD.1 hD.2
    have hmn : m / n ≤ 32 := Nat.le_trans (Nat.div_le_self m n) m2
    have b0 : ∀ l s : Nat, l ≤ 32 → 0 ≤ wq l s ∧ wq l s ≤ 33 := fun l s hl => by unfold wq; split <;> omega
    have b := b0 (m / n) (st m n (k + 1) - st m n k) hmn
    rw [← hf]
    show 0 ≤ D.getD k 0 * D.getD k 0 * wq (m / n) (st m n (k + 1) - st m n k) ∧ D.getD k 0 * D.getD k 0 * wq (m / n) (st m n (k + 1) - st m n k) ≤ _
    refine ⟨Int.mul_nonneg a.1 b.1, ?_⟩
    have := Int.mul_le_mul a.2 b.2 b.1 (by omega)
    omega
  have tb : ∀ k, k ≤ n → 0 ≤ tq f k ∧ tq f k ≤ 4429185024000000 := fun k hk => by
    have a := tq_nn (n := n) (fun i hi => (hfb i hi).1) k hk
    have b := tq_hi (n := n) (fun i hi => (hfb i hi).2) k hk
    have : (553648128000000 : Int) * (k : Int) ≤ 553648128000000 * 8 := Int.mul_le_mul_of_nonneg_left (by omega) (by omega)
    omega
  have c1 := cq_in m n n1 nm m2
  have cu : 1 ≤ cq m n * un ∧ cq m n * un ≤ 1081344 := by
    have a : cq m n * un ≤ 1056 * 1024 := Int.mul_le_mul c1.2 u2 (by omega) (by omega)
    have b : 1 * 1 ≤ cq m n * un := Int.mul_le_mul c1.1 u1 (by omega) (by omega)
    omega
  have HF := Lib.hid (And.intro hfb (And.intro tb hf))
  have H1 := Lib.hid h1
  have H2 := Lib.hid h2
  have HBD := Lib.hid bD
  obtain ⟨l, hl⟩ : ∃ l, m / n = l := ⟨_, rfl⟩
  have hl1 : 1 ≤ l := by rw [← hl]; exact Nat.div_pos nm n1
  have hl32 : l ≤ 32 := by rw [← hl]; exact Nat.le_trans (Nat.div_le_self m n) m2
  have hC : (l : Int) * ((l : Int) + 1) = cq m n := by unfold cq; rw [hl]
  obtain ⟨C, hC2⟩ : ∃ C, cq m n = C := ⟨_, rfl⟩
  rw [hC2] at hC c1 cu ⊢
  have HCL := Lib.hid (And.intro hl hC2)
  have HH : Hid (∀ k, k < n → ((st m n (k + 1) - st m n k : Nat) : Int) * wq l (st m n (k + 1) - st m n k) = C) := fun k hk => by rw [← hl, ← hC2]; exact sz_mul m n k n1
  have a1 : 2 ≤ (m : Int) := by omega
  have a2 : (m : Int) ≤ 32 := by omega
  have a3 : 1 ≤ (n : Int) := by omega
  have a4 : (n : Int) ≤ 8 := by omega
  have l0 : 1 ≤ (l : Int) := by omega
  have l2 : (l : Int) ≤ 32 := by omega
  have hdl : (m : Int).tdiv (n : Int) = (l : Int) := by rw [Int.tdiv_eq_ediv_of_nonneg (by omega), ← Int.natCast_ediv, hl]
  have n0 : ¬ (n : Int) = 0 := by omega
  have n00 : ¬ n = 0 := by omega
  have cn := h2.at n (by omega)
  rw [sts_at m n n n1 (Nat.le_refl n), st_all m n n1] at cn
  obtain ⟨c0, c3⟩ := c1
  obtain ⟨l3, hl3⟩ : ∃ k : Int, (l : Int) + 1 = k := ⟨_, rfl⟩
  rw [hl3] at hC
  have wC : IntKind.i64.wrap C = C := IntWalk.i64_in _ (by omega)
  have wC2 : wrap64 C = C := IntWalk.wrap64_in _ (by omega)
  have nn1 : (n : Int) + 1 - 1 = (n : Int) := by omega
  have nn2 : ((n + 1 : Nat) : Int) - 1 = (n : Int) := by omega
  have MK : Hid (∀ (W : World) (T : Int), 0 ≤ T → T ≤ 4429185024000000 → _) := fun W T h0 h1 => R12.rmake_ok T (C * un) h0 cu.1 (by omega) (by omega) W
  have wCU : wrap64 (C * un) = C * un := IntWalk.wrap64_in _ (by omega)
  have HCU := Lib.hid cu
  rw [hf]
  have HR0 : Hid (Bk (w.alloc (.cells #[.int .i64 0, .int .i64 0] 39)) w.heap.size 39 #[.int .i64 0, .int .i64 0]) := Bk.nw _ _ _
  have HB0 : Hid (Bel w (w.alloc (.cells #[.int .i64 0, .int .i64 0] 39))) := Bel.rf.al _
  have cnA : ∀ o, (w.alloc o).cell? ⟨ha, n, none⟩ = some (.int .i64 (m : Int)) := fun o => kp_al cn o
  clear h1 h2 bD hfb tb hf hl hC2 cu
  go_enter Try.func56, Try.ntmps56
  go_wp2
  clear cn cnA
  go_loopw [8, 24] (fun s8 s24 wr => ∃ (k : Nat) (V : World), V = wr ∧ k ≤ n ∧ s24 = .int .i64 (k : Int) ∧ s8 = .int .i64 (tq f k) ∧ Bel (w.alloc (.cells #[.int .i64 0, .int .i64 0] 39)) wr) (fun _ s24 _ => n - (intOf s24).toNat)
  case atStart => exact ⟨0, _, rfl, by omega, rfl, rfl, by first | exact Bel.rf | exact Bel.rf.drw | exact Bel.rf.drwN _⟩
  case round =>
    obtain ⟨k, wr, hwr, hk, rfl, rfl, hb⟩ := hrel
    subst hwr
    have HB := Lib.hid hb
    have hbw := HB0.out.tr hb
    rcases Nat.lt_or_ge k n with hlt | hge
    · have d1 := (H1.out.bel hbw).at k hlt
      have e1 := (H2.out.bel hbw).at k (by omega)
      have e2 := (H2.out.bel hbw).at (k + 1) (by omega)
      rw [sts_at m n k n1 (by omega)] at e1
      rw [sts_at m n (k + 1) n1 (by omega)] at e2
      have hs := sz m n k n1
      rw [HCL.out.1] at hs
      have hm2 := st_le m n (k + 1) n1 (by omega)
      have hsz := HH.out k hlt
      have hfk : f k = D.getD k 0 * D.getD k 0 * wq l (st m n (k + 1) - st m n k) := by rw [← HF.out.2.2, HCL.out.1]
      have fb := HF.out.1 k hlt
      have t0 := HF.out.2.1 k (by omega)
      have t1 := HF.out.2.1 (k + 1) (by omega)
      have hD : -4096000 ≤ D.getD k 0 ∧ D.getD k 0 ≤ 4096000 := by
        rw [List.getD_eq_getElem?_getD, List.getElem?_eq_getElem (show k < D.length by rw [H1.out.1]; exact hlt), Option.getD_some]
        exact HBD.out _ (List.getElem_mem _)
      have tn : tq f (k + 1) = tq f k + f k := rfl
      obtain ⟨s0, es0⟩ : ∃ s, st m n k = s := ⟨_, rfl⟩
      obtain ⟨s1, es1⟩ : ∃ s, st m n (k + 1) = s := ⟨_, rfl⟩
      obtain ⟨d, hd⟩ : ∃ d, D.getD k 0 = d := ⟨_, rfl⟩
      rw [es0] at e1 hs hsz hfk
      rw [es1] at e2 hs hsz hfk hm2
      rw [hd] at d1 hfk hD
      obtain ⟨z, hz⟩ : ∃ z, s1 - s0 = z := ⟨_, rfl⟩
      rw [hz] at hsz hfk
      have zi : (s1 : Int) - (s0 : Int) = (z : Int) := by omega
      have z1 : 1 ≤ z := by omega
      obtain ⟨q, hq⟩ : ∃ q, wq l z = q := ⟨_, rfl⟩
      rw [hq] at hsz hfk
      have hqd : C.tdiv (z : Int) = q := by rw [← hsz, Int.mul_comm]; exact Int.mul_tdiv_cancel q (by omega)
      have q2 : 0 ≤ q ∧ q ≤ 33 := by rw [← hq]; unfold wq; split <;> omega
      obtain ⟨q0, q1⟩ := q2
      have dd := sq_bd (B := 4096000) hD.1 hD.2
      obtain ⟨r, hr⟩ : ∃ r, d * d = r := ⟨_, rfl⟩
      rw [hr] at hfk dd
      obtain ⟨F, hF⟩ : ∃ F, f k = F := ⟨_, rfl⟩
      obtain ⟨T, hT⟩ : ∃ F, tq f k = F := ⟨_, rfl⟩
      rw [hF] at hfk fb tn
      rw [hT] at t0 tn ⊢
      rw [tn] at t1
      have hfk2 : r * q = F := hfk.symm
      have wr1 : IntKind.i64.wrap r = r := IntWalk.i64_in _ (by omega)
      have wq1 : IntKind.i64.wrap q = q := IntWalk.i64_in _ (by omega)
      have wF : IntKind.i64.wrap F = F := IntWalk.i64_in _ (by omega)
      have wT : IntKind.i64.wrap (T + F) = T + F := IntWalk.i64_in _ (by omega)
      have wz : IntKind.i64.wrap (z : Int) = (z : Int) := IntWalk.i64_in _ (by omega)
      have wl3 : IntKind.i64.wrap l3 = l3 := IntWalk.i64_in _ (by omega)
      have z0 : ¬ (z : Int) = 0 := by omega
      have z00 : ¬ z = 0 := by omega
      obtain ⟨k1, hk1⟩ : ∃ j, k + 1 = j := ⟨_, rfl⟩
      rw [hk1] at e2
      have ki1 : (k : Int) + 1 = (k1 : Int) := by omega
      have ki : (k : Int) < (n : Int) := by omega
      have kj1 : (k : Int) < ((n + 1 : Nat) : Int) := by omega
      have kj2 : (k1 : Int) < ((n + 1 : Nat) : Int) := by omega
      have kj3 : (k : Int) < (n : Int) + 1 := by omega
      have kj4 : (k1 : Int) < (n : Int) + 1 := by omega
      have wk1 : IntKind.i64.wrap (k1 : Int) = (k1 : Int) := IntWalk.i64_in _ (by omega)
      have HT : Hid (tq f k1 = T + F ∧ k1 ≤ n) := ⟨by rw [← hk1, tn], by omega⟩
      have HM : Hid (n - (intOf (.int .i64 (k1 : Int))).toNat < n - (intOf (.int .i64 (k : Int))).toNat) := by show _ < _; simp [intOf]; omega
      clear hb hbw es0 es1 hd hz hq hs hsz hm2 hfk fb t0 t1 tn hD dd hF hT hk1
      go_wp2
      go_quiet (fail)
      go_wp2
      go_roundw
      case rel => exact ⟨k1, _, rfl, HT.out.2, rfl, by rw [HT.out.1], by first | exact HB.out | exact HB.out.drw | exact HB.out.drwN _⟩
      case measure => exact HM.out
    · obtain rfl : k = n := by omega
      have hT := HF.out.2.1 k (Nat.le_refl k)
      obtain ⟨T, hTT⟩ : ∃ F, tq f k = F := ⟨_, rfl⟩
      rw [hTT] at hT ⊢
      have MK2 : Hid (∀ W, _) := fun W => MK.out W T hT.1 hT.2
      have HR := Lib.hid (HR0.out.bel hb)
      have HBW := Lib.hid hbw
      have HTT := Lib.hid hTT
      clear hb hbw hT hTT
      go_wp2_with (go_at_call 68; refine (MK2.out _).mono ?_; rintro e w9 ⟨t, u, rfl, hv, hb9⟩; have B9 := (HR.out.bel hb9).al (.cells #[.int .i64 t, .int .i64 u] 39); have B8 := Bk.nw w9 39 #[.int .i64 t, .int .i64 u]; have q0 := B9.cell 0; have q1 := B9.cell 1; have q2 := B9.fr 0; have q3 := B9.fr 1; have q4 := B8.cell 0; have q5 := B8.cell 1; have HB9 := Lib.hid B9; clear B9 B8)
      refine bodyPost_ret (v := .agg #[.int .i64 t, .int .i64 u]) (by simp [results, Try.results56, go_sem, q0, q1]) rfl ⟨t, u, rfl, by rw [HTT.out]; exact hv, ?_⟩
      exact ((((HBW.out.tr hb9).al _).st (by show w.heap.size ≤ w.heap.size; omega) _).st (by show w.heap.size ≤ w.heap.size; omega) _)
end Go.Proofs.Ytkonknkoggfeaaa.R18
