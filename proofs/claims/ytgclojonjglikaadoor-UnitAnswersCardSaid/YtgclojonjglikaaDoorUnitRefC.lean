/- The contracts of the reference's Power, Down, Half, Sample and Convert (shapesearchref04) over valid decimals and units. -/
import Derived.Test.YtgclojonjglikaaDoorUnitBad
namespace Go.Proofs.YtgclojonjglikaaDoor.Un
open Go.ChangeShapes Go.WideShapes Go.RowKit Wo
set_option linter.unusedVariables false
theorem pow_bd {p : Nat} (hp : p ≤ 6) : 1 ≤ (10 : Int) ^ p ∧ (10 : Int) ^ p ≤ 1000000 := by
  match p, hp with
  | 0, _ => exact ⟨by decide, by decide⟩
  | 1, _ => exact ⟨by decide, by decide⟩
  | 2, _ => exact ⟨by decide, by decide⟩
  | 3, _ => exact ⟨by decide, by decide⟩
  | 4, _ => exact ⟨by decide, by decide⟩
  | 5, _ => exact ⟨by decide, by decide⟩
  | 6, _ => exact ⟨by decide, by decide⟩
theorem power_any (p : Nat) (hp : p ≤ 6) (w : World) : Calls Tryd.prog 21 #[.int .i64 (p : Int)] w fun e w' => e = .returned (.int .i64 ((10 : Int) ^ p)) ∧ w = w' := by
  have pi : (p : Int) ≤ 6 := by omega
  go_enter Tryd.func21, Tryd.ntmps21
  go_wp2
  go_loopw [3, 4] (fun s3 s4 wr => ∃ (k : Nat) (y : Int), k ≤ p ∧ s4 = .int .i64 (k : Int) ∧ s3 = .int .i64 y ∧ y = (10 : Int) ^ k ∧ w = wr) (fun _ s4 _ => p - (intOf s4).toNat)
  case atStart => exact ⟨0, 1, by omega, rfl, rfl, by simp, rfl⟩
  case round =>
    obtain ⟨k, y, hk, rfl, rfl, hy, rfl⟩ := hrel
    have HY := Lib.hid hy
    rcases Nat.lt_or_ge k p with hlt | hge
    · have b := pow_bd (show k ≤ 6 by omega)
      rw [← hy] at b
      obtain ⟨b1, b2⟩ := b
      have hn : y * 10 = (10 : Int) ^ (k + 1) := by rw [hy, Int.pow_succ]
      have HN := Lib.hid hn
      have ki : (k : Int) < (p : Int) := by omega
      clear hy hn
      go_wp2
      go_roundw
      case rel => exact ⟨k + 1, _, by omega, by go_num, rfl, HN.out, by first | trivial | rfl⟩
      case measure => simp [intOf]; omega
    · obtain rfl : k = p := by omega
      clear hy
      go_wp2
      go_ret
      exact ⟨ret_int HY.out, rfl⟩
theorem rdown_any (a b : Int) (h1 : 1 ≤ b) (h2 : b ≤ 4611686018427387904) (h3 : -4611686018427387904 ≤ a) (h4 : a ≤ 4611686018427387904) (w : World) :
    Calls Tryd.prog 45 #[.int .i64 a, .int .i64 b] w fun e w' => e = .returned (.int .i64 (a / b)) ∧ w = w' := by
  have m := fl_parts a b h1
  have t := td_bound a b 4611686018427387904 h1 h3 h4
  have t0 := t.1
  have t1 := t.2
  have hne : b ≠ 0 := by omega
  have e1 := m.2.2.1
  have e2 := m.2.2.2
  have tw : IntKind.i64.wrap (a.tdiv b) = a.tdiv b := IntWalk.i64_in _ (by omega)
  have tw3 : wrap64 (a.tdiv b) = a.tdiv b := IntWalk.wrap64_in _ (by omega)
  have tw2 : IntKind.i64.wrap (a.tdiv b - 1) = a.tdiv b - 1 := IntWalk.i64_in _ (by omega)
  rcases Int.lt_or_le (a.tmod b) 0 with h | h
  · have HE := Lib.hid (m.1 h)
    clear m t
    go_enter Tryd.func45, Tryd.ntmps45
    go_wp2
    go_ret
    exact ⟨ret_int HE.out, rfl⟩
  · have HE := Lib.hid (m.2.1 h)
    clear m t
    go_enter Tryd.func45, Tryd.ntmps45
    go_wp2
    go_ret
    exact ⟨ret_int HE.out, rfl⟩
theorem rhalf_any (a b : Int) (h1 : 1 ≤ b) (h2 : b ≤ 1152921504606846976) (h3 : -1152921504606846976 ≤ a) (h4 : a ≤ 1152921504606846976) (w : World) :
    Calls Tryd.prog 31 #[.int .i64 a, .int .i64 b] w fun e w' => e = .returned (.int .i64 (hup a b)) ∧ w = w' := by
  have HE : Hid (∀ w, Calls Tryd.prog 45 #[.int .i64 (2 * a + b), .int .i64 (2 * b)] w fun e w' => e = .returned (.int .i64 (hup a b)) ∧ w = w') :=
    fun w => rdown_any (2 * a + b) (2 * b) (by omega) (by omega) (by omega) (by omega) w
  go_enter Tryd.func31, Tryd.ntmps31
  go_wp2_with (go_at_call 45; refine (HE.out _).mono ?_; rintro e w' ⟨rfl, rfl⟩)
  go_ret
  exact ⟨rfl, rfl⟩
theorem rsample_any (n : Int) (w : World) : Calls Tryd.prog 32 #[.int .i64 n] w fun e w' => e = .returned (.bool (smp n)) ∧ w = w' := by
  rcases Int.lt_or_le n (-1000) with h | h
  · have HE : Hid (smp n = false) := decide_eq_false (by omega)
    have b1 : decide (-1000 ≤ n) = false := decide_eq_false (by omega)
    go_enter Tryd.func32, Tryd.ntmps32
    go_wp2
    go_ret
    exact ⟨ret_bool HE.out.symm, rfl⟩
  · rcases Int.lt_or_le 1000 n with k | k
    · have HE : Hid (smp n = false) := decide_eq_false (by omega)
      have b1 : decide (-1000 ≤ n) = true := decide_eq_true (by omega)
      have b2 : decide (n ≤ 1000) = false := decide_eq_false (by omega)
      go_enter Tryd.func32, Tryd.ntmps32
      go_wp2
      go_ret
      exact ⟨ret_bool HE.out.symm, rfl⟩
    · have HE : Hid (smp n = true) := decide_eq_true (by omega)
      have b1 : decide (-1000 ≤ n) = true := decide_eq_true (by omega)
      have b2 : decide (n ≤ 1000) = true := decide_eq_true (by omega)
      go_enter Tryd.func32, Tryd.ntmps32
      go_wp2
      go_ret
      exact ⟨ret_bool HE.out.symm, rfl⟩
set_option maxHeartbeats 2000000 in
theorem rconvert_any (x : Int) (p : Nat) (P : Int) (s : ByteArray) (m a d : Int) (x1 : -1000000000 ≤ x) (x2 : x ≤ 1000000000) (hp : p ≤ 6) (p1 : 1 ≤ P) (p2 : P ≤ 1000000) (hs : Low s) (m1 : 1 ≤ m) (m2 : m ≤ 1000000) (a1 : -1000000000 ≤ a) (a2 : a ≤ 1000000000) (d1 : 1 ≤ d) (d2 : d ≤ 1000000) (w : World)
    (hc : (10 : Int) ^ p = P) :
    Calls Tryd.prog 11 #[.agg #[.int .i64 x, .int .i64 (p : Int)], .agg #[.string s, .int .i64 m, .int .i64 a, .int .i64 d]] w fun e w' => e = .returned (cvt (x * m + a * P) (d * P)) ∧ Bel w w' := by
  have q1 := mul_in (Y := 1000000) x1 x2 (by omega) m2 (by omega)
  have q2 := mul_in (Y := 1000000) a1 a2 (by omega) p2 (by omega)
  have q3 := mul_in (x := d) (X := 1000000) (Y := 1000000) (by omega) d2 (by omega) p2 (by omega)
  have q4 : 1 ≤ d * P := by have := Int.mul_le_mul_of_nonneg_right d1 (show 0 ≤ P by omega); omega
  have w1 : IntKind.i64.wrap (x * m) = x * m := IntWalk.i64_in _ (by omega)
  have w2 : IntKind.i64.wrap (a * P) = a * P := IntWalk.i64_in _ (by omega)
  have w3 : IntKind.i64.wrap (d * P) = d * P := IntWalk.i64_in _ (by omega)
  have w4 : IntKind.i64.wrap (x * m + a * P) = x * m + a * P := IntWalk.i64_in _ (by omega)
  have pi : (p : Int) ≤ 6 := by omega
  have pi0 : (0 : Int) ≤ (p : Int) := by omega
  have HD : Hid (∀ w, Calls Tryd.prog 20 #[.agg #[.int .i64 x, .int .i64 (p : Int)]] w fun e w' => e = .returned (.bool true) ∧ Bel w w') := fun w => (proper_any x p w).mono fun e w' ⟨h, hb⟩ => ⟨by rcases h with h | h; exact h.1; exact absurd ⟨x1, x2, pi0, pi⟩ h.2, hb⟩
  have HU : Hid (∀ w, Calls Tryd.prog 13 #[.agg #[.string s, .int .i64 m, .int .i64 a, .int .i64 d]] w fun e w' => e = .returned (.bool true) ∧ Bel w w') := fun w => (rvalid_any s m a d (by have := hs.2.1; omega) w).mono fun e w' ⟨h, hb⟩ => ⟨by rcases h with h | h; exact h.1; exact absurd ⟨hs, m1, m2, a1, a2, d1, d2⟩ h.2, hb⟩
  have HH : Hid (∀ w, Calls Tryd.prog 31 #[.int .i64 (x * m + a * P), .int .i64 (d * P)] w fun e w' => e = .returned (.int .i64 (hup (x * m + a * P) (d * P))) ∧ w = w') := fun w => rhalf_any _ _ q4 (by omega) (by omega) (by omega) w
  have HC : Hid (∀ W, Calls Tryd.prog 21 #[.int .i64 (p : Int)] W fun e w' => e = .returned (.int .i64 P) ∧ W = w') := fun W => by
    have := power_any p hp W
    rwa [hc] at this
  have y1 : wrap64 (x * m) = x * m := IntWalk.wrap64_in _ (by omega)
  have y2 : wrap64 (a * P) = a * P := IntWalk.wrap64_in _ (by omega)
  have y3 : wrap64 (d * P) = d * P := IntWalk.wrap64_in _ (by omega)
  have y4 : wrap64 (x * m + a * P) = x * m + a * P := IntWalk.wrap64_in _ (by omega)
  clear hc hs
  go_enter Tryd.func11, Tryd.ntmps11
  go_wp2_with fail
  go_at_call 20
  refine (HD.out _).mono ?_
  rintro e w5 ⟨rfl, h5⟩
  have B2 : Bk w5 (w.heap.size + 1) 25 #[.string s, .int .i64 m, .int .i64 a, .int .i64 d] := (Bk.nq (w.alloc _) _ _ (by simp)).bel h5
  have HX : Hid (Bel w w5) := ((Bel.rf.al _).al _).tr h5
  have HB1 : Hid (Bk w5 w.heap.size 23 #[.int .i64 x, .int .i64 (p : Int)]) := ((Bk.nw _ _ _).al _).bel h5
  have HB2 := Lib.hid B2
  have c0 : w5.cell? ⟨w.heap.size + 1, 0, none⟩ = some (.string s) := B2.cell 0
  have c1 : w5.cell? ⟨w.heap.size + 1, 1, none⟩ = some (.int .i64 m) := B2.cell 1
  have c2 : w5.cell? ⟨w.heap.size + 1, 2, none⟩ = some (.int .i64 a) := B2.cell 2
  have c3 : w5.cell? ⟨w.heap.size + 1, 3, none⟩ = some (.int .i64 d) := B2.cell 3
  clear h5 B2
  go_wp2_with fail
  go_at_call 13
  refine (HU.out _).mono ?_
  rintro e w6 ⟨rfl, h6⟩
  have B1 := HB1.out.bel h6
  have B2 := HB2.out.bel h6
  have k0 : w6.cell? ⟨w.heap.size, 0, none⟩ = some (.int .i64 x) := B1.cell 0
  have k1 : w6.cell? ⟨w.heap.size, 1, none⟩ = some (.int .i64 (p : Int)) := B1.cell 1
  have k2 : w6.cell? ⟨w.heap.size + 1, 1, none⟩ = some (.int .i64 m) := B2.cell 1
  have k3 : w6.cell? ⟨w.heap.size + 1, 2, none⟩ = some (.int .i64 a) := B2.cell 2
  have k4 : w6.cell? ⟨w.heap.size + 1, 3, none⟩ = some (.int .i64 d) := B2.cell 3
  have hx6 := HX.out.tr h6
  have HX6 := Lib.hid hx6
  clear h6 B1 B2 hx6 c0 c1 c2 c3
  go_wp2_with fail
  go_at_call 21
  refine (HC.out _).mono ?_
  rintro e w7 ⟨rfl, rfl⟩
  go_wp2_with fail
  go_at_call 31
  refine (HH.out _).mono ?_
  rintro e w7 ⟨rfl, rfl⟩
  clear w1 w2 w3 w4 y1 y2 y3 y4
  generalize hG : hup (x * m + a * P) (d * P) = q
  have HG := Lib.hid hG
  clear hG
  have HV : Hid (cvt (x * m + a * P) (d * P) = if smp q = true then .tuple #[.int .i64 q, .int .i64 0] else .tuple #[.int .i64 0, .int .i64 12]) := by
    show cvt (x * m + a * P) (d * P) = _
    unfold cvt
    rw [HG.out]
  rcases hS : smp q
  · rw [hS] at HV
    have HS := Lib.hid hS
    have HSC : Hid (∀ w, Calls Tryd.prog 32 #[.int .i64 q] w fun e w' => e = .returned (.bool false) ∧ w = w') := fun w => by have := rsample_any q w; rwa [HS.out] at this
    clear hS
    go_wp2_with (go_at_call 32; refine (HSC.out _).mono ?_; rintro e w' ⟨rfl, rfl⟩)
    go_ret2
    exact ⟨by rw [HV.out]; rfl, HX6.out⟩
  · rw [hS] at HV
    have HS := Lib.hid hS
    have HSC : Hid (∀ w, Calls Tryd.prog 32 #[.int .i64 q] w fun e w' => e = .returned (.bool true) ∧ w = w') := fun w => by have := rsample_any q w; rwa [HS.out] at this
    clear hS
    go_wp2_with (go_at_call 32; refine (HSC.out _).mono ?_; rintro e w' ⟨rfl, rfl⟩)
    go_ret2
    exact ⟨by rw [HV.out]; rfl, HX6.out⟩
end Go.Proofs.YtgclojonjglikaaDoor.Un
