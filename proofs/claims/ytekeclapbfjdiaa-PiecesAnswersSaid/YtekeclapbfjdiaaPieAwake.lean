/- shapesearchlaw18.awake. -/
import Derived.Test.YtekeclapbfjdiaaPie6
namespace Go.Proofs.Ytekeclapbfjdiaa.Pc
open Go.ChangeShapes Go.WideShapes Go.RowKit Wo Sr Wi Ra Nr Eu
set_option linter.unusedVariables false
theorem piece_len (K p t : Nat) (hp : 0 < p) : st K p (t + 1) - st K p t = K / p ∨ st K p (t + 1) - st K p t = (K + p - 1) / p := by
  have h := st_step K p t hp
  rcases Nat.eq_zero_or_pos (K % p) with hz | hz
  · left
    have hd : p * (K / p) = K := Nat.mul_div_cancel' (Nat.dvd_of_mod_eq_zero hz)
    have e : ∀ i, st K p i = i * (K / p) := fun i => by
      unfold st
      have : i * K = i * (K / p) * p := by rw [Nat.mul_assoc, Nat.mul_comm (K / p) p, hd]
      rw [this]
      exact Nat.mul_div_cancel _ hp
    rw [e, e, Nat.succ_mul, Nat.add_sub_cancel_left]
  · have h1 := Nat.div_add_mod K p
    have h2 := Nat.mod_lt K hp
    obtain ⟨q, hq⟩ : ∃ q, K / p = q := ⟨_, rfl⟩
    obtain ⟨r, hr⟩ : ∃ q, K % p = q := ⟨_, rfl⟩
    have e2 : (K + p - 1) / p = q + 1 := by
      rw [hq, hr] at h1
      rw [hr] at h2 hz
      have h3 : K + p - 1 = p * (q + 1) + (r - 1) := by rw [Nat.mul_add, Nat.mul_one]; generalize p * q = z at *; omega
      rw [h3, Nat.mul_add_div hp, Nat.div_eq_of_lt (by omega), Nat.add_zero]
    rw [e2, hq]
    rw [hq] at h
    omega
theorem vl_34 : Vl 34 1 204 6 := ⟨⟨⟨by decide, by decide, by decide, by decide⟩, by decide +kernel⟩, by decide⟩
set_option maxHeartbeats 8000000 in
set_option maxRecDepth 100000 in
theorem awake_any (w : World) : Calls Try.prog 20 #[] w fun e w' => e = .returned (.bool true) ∧ Bel w w' := by
  have g1 : sts 7 3 = [0, 2, 4, 7] := by decide +kernel
  have g2 : pls (cen [1, 2, 3, 4, 5, 6, 7]) 7 3 = [-35, -7, 42] := by decide +kernel
  have g3 : bnd 4 2 (pls [0, 0, 4, 4] 4 2) (pls [1, 1, 0, 0] 4 2) = 204 := by decide +kernel
  have GG := Lib.hid (And.intro g1 (And.intro g2 g3))
  clear g1 g2 g3
  go_enter Try.func20, Try.ntmps20
  go_wp2_with fail
  go_at_call 31
  refine (Starts_ok 7 3 (by decide) (by decide) (by decide) (by decide) (by decide) _).mono ?_
  rintro e w1 ⟨h1, c1, rfl, q1, q2, q3, hb⟩
  have HB1 := Lib.hid hb
  have HZ1 := Lib.hid (own_zi q3 (sts_len 7 3))
  rw [GG.out.1] at HZ1
  clear hb q1 q2 q3
  go_wp2_with fail
  go_at_call 25
  refine (Cen_ok _ 7 7 3 [1, 2, 3, 4, 5, 6, 7] (by decide) (by decide) (by decide) (by decide) (by decide) (by decide) (sam_l (by decide)) _ (zi_bk (Bk.nq _ 3 _ (by simp)) 7 rfl)).mono ?_
  rintro e w2 ⟨h2, c2, rfl, q1, q2, q3, hb⟩
  have HB2 : Hid (Bel w w2) := (HB1.out.al _).tr hb
  have HZ1' := Lib.hid ((HZ1.out.bel (Bel.rf.al _)).bel hb)
  have HZ2 := Lib.hid (own_zi q3 (pls_len _ 7 3))
  rw [GG.out.2.1] at HZ2
  clear hb q1 q2 q3
  go_wp2_with fail
  go_at_call 27
  refine (Lower_ok _ _ 4 4 4 2 [0, 0, 4, 4] [1, 1, 0, 0] (by decide) (by decide) (by decide) (by decide) (by decide) (by decide) (by decide) (sam_l (by decide)) (sam_l (by decide)) _ (zi_bk ((Bk.nw w2 3 _).al _) 4 rfl) (zi_bk (Bk.nq _ 3 _ (by simp)) 4 rfl)).mono ?_
  rintro e w3 ⟨t, u, rfl, hv, hb⟩
  rw [GG.out.2.2] at hv
  obtain ⟨rfl, rfl⟩ := vl_eq (C := 6) (by decide) hv vl_34
  have HB3 : Hid (Bel w w3) := ((HB2.out.al _).al _).tr hb
  have HZ1'' := Lib.hid ((HZ1'.out.bel ((Bel.rf.al _).al _)).bel hb)
  have HZ2'' := Lib.hid ((HZ2.out.bel ((Bel.rf.al _).al _)).bel hb)
  clear hb hv HZ1 HZ1' HZ2
  have HK3 : Hid (∀ W, Bel (w3.alloc (.cells #[.int .i64 34, .int .i64 1] 37)) W → Bk W w3.heap.size 37 #[.int .i64 34, .int .i64 1]) := fun W h => (Bk.nw _ _ _).bel h
  have hB3' : Hid (Bel w (w3.alloc (.cells #[.int .i64 34, .int .i64 1] 37))) := HB3.out.al _
  go_wp2_with fail
  go_at_call 19
  refine (ints_same (some ⟨h1, 0, none⟩) (some ⟨w3.heap.size + 1, 0, none⟩) c1 4 4 [0, 2, 4, 7] (by decide) _ ((HZ1''.out.bel (Bel.rf.al _)).bel (Bel.rf.al _)) (zi_bk (Bk.nq _ 3 _ (by simp)) 4 rfl)).mono ?_
  rintro e w4 ⟨rfl, hb⟩
  have HB4 : Hid (Bel w w4) := (hB3'.out.al _).tr hb
  have HK4 := HK3.out _ ((Bel.rf.al _).tr hb)
  have HZ4 := Lib.hid (((HZ2''.out.bel (Bel.rf.al _)).bel (Bel.rf.al _)).bel hb)
  have HKK := Lib.hid HK4
  clear hb HK4 HK3 HZ1'' HZ2''
  go_wp2_with fail
  go_at_call 19
  refine (ints_same (some ⟨h2, 0, none⟩) (some ⟨w4.heap.size, 0, none⟩) c2 3 3 [-35, -7, 42] (by decide) _ (HZ4.out.bel (Bel.rf.al _)) (zi_bk (Bk.nq _ 3 _ (by simp)) 3 rfl)).mono ?_
  rintro e w5 ⟨rfl, hb⟩
  have HB5 : Hid (Bel w w5) := (HB4.out.al _).tr hb
  have HK5 := (HKK.out.al (.cells #[.int .i64 (-35), .int .i64 (-7), .int .i64 42] 3)).bel hb
  have y0 := HK5.cell 0
  have y1 := HK5.cell 1
  clear hb HK5
  go_wp2
  go_ret
  exact ⟨rfl, HB5.out⟩
end Go.Proofs.Ytekeclapbfjdiaa.Pc
