/- The contract of math/bits.Div64 where the high half is not 0. -/
import Derived.Test.YtmpkjlifcdobiaaDoorRatioAdd
import Derived.Test.YtmpkjlifcdobiaaDoorDivMath
import Derived.Deep.DeepCutAuto
import Derived.Deep.CutBlock
import Derived.Laws.MathBits
import Derived.Lib.ItoaNum
import Derived.Lib.EndianBits
namespace Go.Proofs.YtmpkjlifcdobiaaDoor.Dv
open Go.ChangeShapes Go.WideShapes Go.RowKit Wo
set_option linter.unusedVariables false
theorem lz (y : Int) (k : Int) (h0 : 0 ≤ y) (h1 : y ≤ 18446744073709551615) (hk : 64 - (Lib.bitLen y.toNat : Int) = k) (w : World) :
    Calls Tryd.prog 58 #[.int .u64 y] w fun e w' => e = .returned (.int .i64 k) ∧ w = w' := by
  subst hk
  exact (Tryd.bits_LeadingZeros64 y w h0 h1).mono fun _ _ ⟨a, b⟩ => ⟨a, b.symm⟩
set_option maxHeartbeats 8000000 in
set_option maxRecDepth 100000 in
/-- with every number of the way under a letter -/
theorem div64_core (hi lo y : Int) (s : Nat) (h0 : 1 ≤ hi) (h1 : hi < y) (h2 : y ≤ 18446744073709551615) (h3 : 0 ≤ lo) (h4 : lo ≤ 18446744073709551615) (hs1 : s ≤ 62)
    (hlz : ∀ w, Calls Tryd.prog 58 #[.int .u64 y] w fun e w' => e = .returned (.int .i64 (s : Int)) ∧ w = w')
    (Y a c un L u v Q T P R : Int) (hY : IntKind.u64.wrap (y * 2 ^ s) = Y) (hA : Y / 4294967296 = a) (hC : bits .and .u64 Y 4294967295 = c) (hL : IntKind.u64.wrap (lo * 2 ^ s) = L)
    (hU : bits .or .u64 (IntKind.u64.wrap (hi * 2 ^ s)) (lo / 2 ^ (64 - s)) = un) (hu : L / 4294967296 = u) (hv : bits .and .u64 L 4294967295 = v)
    (hYa : Y = a * 4294967296 + c) (d1 : DIn un u a c) (hQ : (un * 4294967296 + u) / (a * 4294967296 + c) = Q)
    (hT : IntKind.u64.wrap (IntKind.u64.wrap (IntKind.u64.wrap (un * 4294967296) + u) - IntKind.u64.wrap (Q * Y)) = T) (d2 : DIn T v a c) (hP : (T * 4294967296 + v) / (a * 4294967296 + c) = P)
    (hR : IntKind.u64.wrap (IntKind.u64.wrap (IntKind.u64.wrap (T * 4294967296) + v) - IntKind.u64.wrap (P * Y)) = R) (w : World) :
    Calls Tryd.prog 46 #[.int .u64 hi, .int .u64 lo, .int .u64 y] w fun e w' => e = .returned (.tuple #[.int .u64 (Q * 4294967296 + P), .int .u64 (R / 2 ^ s)]) ∧ w = w' := by
  have HL := Lib.hid hlz
  have HYA := Lib.hid hYa
  have D1 := Lib.hid d1
  have D2 := Lib.hid d2
  have HQ := Lib.hid hQ
  have HP := Lib.hid hP
  have a0 := d1.a0
  have a1 := d1.a1
  have c0 := d1.c0
  have c1 := d1.c1
  have u0 := d1.u0
  have u1 := d1.u1
  have n0 := d1.n0
  have v0 := d2.u0
  have v1 := d2.u1
  have t0 := d2.n0
  have n1 : un ≤ 18446744073709551615 := by have := d1.n1; omega
  have t1 : T ≤ 18446744073709551615 := by have := d2.n1; omega
  have q0 : 0 ≤ Q := by have := d1.quo; omega
  have q1 : Q < 4294967296 := by have := d1.quo; omega
  have p0 : 0 ≤ P := by have := d2.quo; omega
  have p1 : P < 4294967296 := by have := d2.quo; omega
  have Y0 : 1 ≤ Y := by omega
  have st1 := start d1
  have st2 := start d2
  have e1 : un.tdiv a = un / a := Int.tdiv_eq_ediv_of_nonneg n0
  have e2 : T.tdiv a = T / a := Int.tdiv_eq_ediv_of_nonneg t0
  have f1 : IntKind.u64.wrap (un / a) = un / a := IntWalk.u64_in _ ⟨st1.1, (by have := st1.2.1; omega)⟩
  have f2 : IntKind.u64.wrap (T / a) = T / a := IntWalk.u64_in _ ⟨st2.1, (by have := st2.2.1; omega)⟩
  have g1 : IntKind.u64.wrap (un / a * a) = un / a * a := IntWalk.u64_in _ ⟨(by exact Int.mul_nonneg st1.1 (by omega)), (by have := st1.2.2.2.1; omega)⟩
  have g2 : IntKind.u64.wrap (T / a * a) = T / a * a := IntWalk.u64_in _ ⟨(by exact Int.mul_nonneg st2.1 (by omega)), (by have := st2.2.2.2.1; omega)⟩
  have k1 : IntKind.u64.wrap (un - un / a * a) = un - un / a * a := IntWalk.u64_in _ ⟨st1.2.2.2.1, (by have := st1.2.2.2.2.1; omega)⟩
  have k2 : IntKind.u64.wrap (T - T / a * a) = T - T / a * a := IntWalk.u64_in _ ⟨st2.2.2.2.1, (by have := st2.2.2.2.2.1; omega)⟩
  have w1 : IntKind.u64.wrap (Q * 4294967296) = Q * 4294967296 := IntWalk.u64_in _ ⟨(by omega), (by omega)⟩
  have w2 : IntKind.u64.wrap (Q * 4294967296 + P) = Q * 4294967296 + P := IntWalk.u64_in _ ⟨(by omega), (by omega)⟩
  have S1 := Lib.hid st1
  have S2 := Lib.hid st2
  have b1 : (y == 0) = false := by simp; omega
  have b3 : (hi == 0) = false := by simp; omega
  have si : (s : Int) ≤ 62 := by omega
  clear hlz hYa d1 d2 hQ hP st1 st2
  go_enter Tryd.func46, Tryd.ntmps46
  go_upto_block 0 with (first | (go_at_call 58; refine (HL.out _).mono ?_; rintro e w1 ⟨rfl, rfl⟩))
  go_cut [15] from 67 to 85 (fun s wx => s = .int .u64 Q ∧ wx = w)
  case first =>
    go_wp2_with fail
    go_loopw [15, 16] (fun sq sr wr => ∃ q r : Int, sq = .int .u64 q ∧ sr = .int .u64 r ∧ DRel un u a c q r ∧ wr = w) (fun sq _ _ => (intOf sq).toNat)
    case atStart => exact ⟨_, _, rfl, rfl, S1.out, rfl⟩
    case round =>
      obtain ⟨q, r, rfl, rfl, hr, rfl⟩ := hrel
      have r1 := hr.1
      have r2 := hr.2.1
      have r4 := hr.2.2.2.1
      have r5 := hr.2.2.2.2.1
      have HR := Lib.hid hr
      clear hr
      rcases Int.lt_or_le q 4294967296 with hq | hq
      · have qb : decide (4294967296 ≤ q) = false := decide_eq_false (by omega)
        have m1 : 0 ≤ q * c := Int.mul_nonneg (by omega) (by omega)
        have m2 : q * c ≤ 4294967295 * 4294967295 := Int.mul_le_mul (by omega) (by omega) (by omega) (by omega)
        have m3 : IntKind.u64.wrap (q * c) = q * c := IntWalk.u64_in _ ⟨(by omega), (by omega)⟩
        have m4 : IntKind.u64.wrap (4294967296 * r) = r * 4294967296 := by rw [Int.mul_comm]; exact IntWalk.u64_in _ ⟨(by omega), (by omega)⟩
        have m5 : IntKind.u64.wrap (r * 4294967296 + u) = r * 4294967296 + u := IntWalk.u64_in _ ⟨(by omega), (by omega)⟩
        rcases Int.lt_or_le (r * 4294967296 + u) (q * c) with ho | ho
        · have ob : decide (r * 4294967296 + u < q * c) = true := decide_eq_true ho
          have q1' : 1 ≤ q := by
            rcases Int.lt_or_le 0 q with h | h
            · omega
            · have : q = 0 := by omega
              subst this
              simp at ho
              omega
          have HO := Lib.hid ho
          clear ho
          have z1 : IntKind.u64.wrap (q - 1) = q - 1 := IntWalk.u64_in _ ⟨(by omega), (by omega)⟩
          have z2 : IntKind.u64.wrap (r + a) = r + a := IntWalk.u64_in _ ⟨(by omega), (by omega)⟩
          rcases Int.lt_or_le (r + a) 4294967296 with hb | hb
          · have zb : decide (4294967296 ≤ r + a) = false := decide_eq_false (by omega)
            have hn := step D1.out HR.out (.inr HO.out) hb
            have hn2 := hn.2.2.2.1
            have HN := Lib.hid hn
            clear hn
            go_wp2_with fail
            go_roundw
            case rel => exact ⟨q - 1, r + a, by go_num, by go_num, HN.out, by first | rfl | trivial⟩
            case measure => simp [intOf]; omega
          · have zb : decide (4294967296 ≤ r + a) = true := decide_eq_true (by omega)
            have hn := (breaks D1.out HR.out (.inr HO.out) hb).symm.trans HQ.out
            have HN := Lib.hid hn
            clear hn
            go_wp2_with fail
            go_meet
            case rel => exact ⟨by (try go_num) <;> rw [← HN.out], rfl⟩
        · have ob : decide (r * 4294967296 + u < q * c) = false := decide_eq_false (by omega)
          have hn := (fits D1.out HR.out (by omega)).symm.trans HQ.out
          have HN := Lib.hid hn
          clear hn ho
          go_wp2_with fail
          go_meet
          case rel => exact ⟨by rw [← HN.out], rfl⟩
      · have qb : decide (4294967296 ≤ q) = true := decide_eq_true (by omega)
        have q1' : 1 ≤ q := by omega
        have HO := Lib.hid hq
        have z1 : IntKind.u64.wrap (q - 1) = q - 1 := IntWalk.u64_in _ ⟨(by omega), (by omega)⟩
        have z2 : IntKind.u64.wrap (r + a) = r + a := IntWalk.u64_in _ ⟨(by omega), (by omega)⟩
        rcases Int.lt_or_le (r + a) 4294967296 with hb | hb
        · have zb : decide (4294967296 ≤ r + a) = false := decide_eq_false (by omega)
          have hn := step D1.out HR.out (.inl HO.out) hb
          have hn2 := hn.2.2.2.1
          have HN := Lib.hid hn
          clear hn
          go_wp2_with fail
          go_roundw
          case rel => exact ⟨q - 1, r + a, by go_num, by go_num, HN.out, by first | rfl | trivial⟩
          case measure => simp [intOf]; omega
        · have zb : decide (4294967296 ≤ r + a) = true := decide_eq_true (by omega)
          have hn := (breaks D1.out HR.out (.inl HO.out) hb).symm.trans HQ.out
          have HN := Lib.hid hn
          clear hn
          go_wp2_with fail
          go_meet
          case rel => exact ⟨by (try go_num) <;> rw [← HN.out], rfl⟩
  case rest =>
  obtain ⟨rfl, hwc⟩ := hcut
  have hwc2 := hwc.symm
  subst hwc2
  go_upto_block 2 with (first | (go_at_call 58; refine (HL.out _).mono ?_; rintro e w1 ⟨rfl, rfl⟩))
  go_cut [18] from 102 to 120 (fun s wx => s = .int .u64 P ∧ wx = w)
  case first =>
    go_wp2_with fail
    go_loopw [18, 16] (fun sq sr wr => ∃ q r : Int, sq = .int .u64 q ∧ sr = .int .u64 r ∧ DRel T v a c q r ∧ wr = w) (fun sq _ _ => (intOf sq).toNat)
    case atStart => exact ⟨_, _, rfl, rfl, S2.out, rfl⟩
    case round =>
      obtain ⟨q, r, rfl, rfl, hr, rfl⟩ := hrel
      have r1 := hr.1
      have r2 := hr.2.1
      have r4 := hr.2.2.2.1
      have r5 := hr.2.2.2.2.1
      have HR := Lib.hid hr
      clear hr
      rcases Int.lt_or_le q 4294967296 with hq | hq
      · have qb : decide (4294967296 ≤ q) = false := decide_eq_false (by omega)
        have m1 : 0 ≤ q * c := Int.mul_nonneg (by omega) (by omega)
        have m2 : q * c ≤ 4294967295 * 4294967295 := Int.mul_le_mul (by omega) (by omega) (by omega) (by omega)
        have m3 : IntKind.u64.wrap (q * c) = q * c := IntWalk.u64_in _ ⟨(by omega), (by omega)⟩
        have m4 : IntKind.u64.wrap (4294967296 * r) = r * 4294967296 := by rw [Int.mul_comm]; exact IntWalk.u64_in _ ⟨(by omega), (by omega)⟩
        have m5 : IntKind.u64.wrap (r * 4294967296 + v) = r * 4294967296 + v := IntWalk.u64_in _ ⟨(by omega), (by omega)⟩
        rcases Int.lt_or_le (r * 4294967296 + v) (q * c) with ho | ho
        · have ob : decide (r * 4294967296 + v < q * c) = true := decide_eq_true ho
          have q1' : 1 ≤ q := by
            rcases Int.lt_or_le 0 q with h | h
            · omega
            · have : q = 0 := by omega
              subst this
              simp at ho
              omega
          have HO := Lib.hid ho
          clear ho
          have z1 : IntKind.u64.wrap (q - 1) = q - 1 := IntWalk.u64_in _ ⟨(by omega), (by omega)⟩
          have z2 : IntKind.u64.wrap (r + a) = r + a := IntWalk.u64_in _ ⟨(by omega), (by omega)⟩
          rcases Int.lt_or_le (r + a) 4294967296 with hb | hb
          · have zb : decide (4294967296 ≤ r + a) = false := decide_eq_false (by omega)
            have hn := step D2.out HR.out (.inr HO.out) hb
            have hn2 := hn.2.2.2.1
            have HN := Lib.hid hn
            clear hn
            go_wp2_with fail
            go_roundw
            case rel => exact ⟨q - 1, r + a, by go_num, by go_num, HN.out, by first | rfl | trivial⟩
            case measure => simp [intOf]; omega
          · have zb : decide (4294967296 ≤ r + a) = true := decide_eq_true (by omega)
            have hn := (breaks D2.out HR.out (.inr HO.out) hb).symm.trans HP.out
            have HN := Lib.hid hn
            clear hn
            go_wp2_with fail
            go_meet
            case rel => exact ⟨by (try go_num) <;> rw [← HN.out], rfl⟩
        · have ob : decide (r * 4294967296 + v < q * c) = false := decide_eq_false (by omega)
          have hn := (fits D2.out HR.out (by omega)).symm.trans HP.out
          have HN := Lib.hid hn
          clear hn ho
          go_wp2_with fail
          go_meet
          case rel => exact ⟨by rw [← HN.out], rfl⟩
      · have qb : decide (4294967296 ≤ q) = true := decide_eq_true (by omega)
        have q1' : 1 ≤ q := by omega
        have HO := Lib.hid hq
        have z1 : IntKind.u64.wrap (q - 1) = q - 1 := IntWalk.u64_in _ ⟨(by omega), (by omega)⟩
        have z2 : IntKind.u64.wrap (r + a) = r + a := IntWalk.u64_in _ ⟨(by omega), (by omega)⟩
        rcases Int.lt_or_le (r + a) 4294967296 with hb | hb
        · have zb : decide (4294967296 ≤ r + a) = false := decide_eq_false (by omega)
          have hn := step D2.out HR.out (.inl HO.out) hb
          have hn2 := hn.2.2.2.1
          have HN := Lib.hid hn
          clear hn
          go_wp2_with fail
          go_roundw
          case rel => exact ⟨q - 1, r + a, by go_num, by go_num, HN.out, by first | rfl | trivial⟩
          case measure => simp [intOf]; omega
        · have zb : decide (4294967296 ≤ r + a) = true := decide_eq_true (by omega)
          have hn := (breaks D2.out HR.out (.inl HO.out) hb).symm.trans HP.out
          have HN := Lib.hid hn
          clear hn
          go_wp2_with fail
          go_meet
          case rel => exact ⟨by (try go_num) <;> rw [← HN.out], rfl⟩
  case rest =>
  obtain ⟨rfl, hwc⟩ := hcut
  have hwc2 := hwc.symm
  subst hwc2
  go_wp2_with fail
  go_ret2
  exact ⟨by go_num, rfl⟩
/-- a number shifted so far that its highest bit is set -/
theorem shifted {y : Int} (h0 : 1 ≤ y) (h1 : y ≤ 18446744073709551615) : ∃ s : Nat, s ≤ 63 ∧ 64 - (Lib.bitLen y.toNat : Int) = (s : Int) ∧ 9223372036854775808 ≤ y * 2 ^ s ∧ y * 2 ^ s < 18446744073709551616 := by
  obtain ⟨n, rfl⟩ := Int.eq_ofNat_of_zero_le (show 0 ≤ y by omega)
  obtain ⟨c1, c2, c3⟩ := Lib.bitLenAux_bounds 64 n (by omega) (by omega)
  have hb : Lib.bitLen n = Lib.bitLenAux 64 n := rfl
  simp only [Int.toNat_natCast]
  rw [hb]
  generalize Lib.bitLenAux 64 n = b at *
  have hb64 : b ≤ 64 := by
    rcases Nat.lt_or_ge 64 b with h | h
    · have := Nat.pow_le_pow_right (n := 2) (by omega) (show 64 ≤ b - 1 by omega)
      omega
    · exact h
  refine ⟨64 - b, by omega, by omega, ?_, ?_⟩
  · have h := Nat.mul_le_mul_right (2 ^ (64 - b)) c2
    rw [← Nat.pow_add, show b - 1 + (64 - b) = 63 by omega] at h
    have h2 := Int.ofNat_le.2 h
    rw [show ((2 ^ 63 : Nat) : Int) = 9223372036854775808 from rfl, Int.natCast_mul, Int.natCast_pow] at h2
    exact h2
  · have h := Nat.mul_lt_mul_of_pos_right c3 (show 0 < 2 ^ (64 - b) by exact Nat.two_pow_pos _)
    rw [← Nat.pow_add, show b + (64 - b) = 64 by omega] at h
    have h2 := Int.ofNat_lt.2 h
    rw [show ((2 ^ 64 : Nat) : Int) = 18446744073709551616 from rfl, Int.natCast_mul, Int.natCast_pow] at h2
    exact h2
set_option maxHeartbeats 4000000 in
theorem div64_any (hi lo y : Int) (h0 : 1 ≤ hi) (h1 : hi < y) (h2 : y ≤ 18446744073709551615) (h3 : 0 ≤ lo) (h4 : lo ≤ 18446744073709551615) (w : World) :
    Calls Tryd.prog 46 #[.int .u64 hi, .int .u64 lo, .int .u64 y] w fun e w' => e = .returned (.tuple #[.int .u64 ((hi * 18446744073709551616 + lo) / y), .int .u64 ((hi * 18446744073709551616 + lo) % y)]) ∧ w = w' := by
  obtain ⟨s, s0, s1, s2, s3⟩ := shifted (y := y) (by omega) h2
  have s62 : s ≤ 62 := by
    rcases Nat.lt_or_ge 62 s with h | h
    · have : s = 63 := by omega
      subst this
      omega
    · exact h
  have hp : (0 : Int) < 2 ^ s := Int.pow_pos (by omega)
  have hpp : (2 : Int) ^ s * 2 ^ (64 - s) = 18446744073709551616 := by rw [← Int.pow_add, show s + (64 - s) = 64 by omega]; rfl
  have hp2 : (0 : Int) < 2 ^ (64 - s) := Int.pow_pos (by omega)
  generalize hG : (2 : Int) ^ s = G at *
  generalize hH : (2 : Int) ^ (64 - s) = H at *
  have hl0 : 0 ≤ lo / H := Int.ediv_nonneg h3 (by omega)
  have hl1 : lo / H < G := Int.ediv_lt_of_lt_mul hp2 (by rw [hpp]; omega)
  have hx : (hi + 1) * G ≤ y * G := Int.mul_le_mul_of_nonneg_right (by omega) (by omega)
  have hx2 : (hi + 1) * G = hi * G + G := by grind
  have hh0 : 0 ≤ hi * G := Int.mul_nonneg (by omega) (by omega)
  have wh : IntKind.u64.wrap (hi * G) = hi * G := IntWalk.u64_in _ ⟨hh0, by omega⟩
  have wy : IntKind.u64.wrap (y * G) = y * G := IntWalk.u64_in _ ⟨by omega, by omega⟩
  have hor : bits .or .u64 (hi * G) (lo / H) = hi * G + lo / H := by
    refine bits_join .u64 64 (by decide) wraps_u64 s _ _ hh0 ?_ (by omega) hl0 (by rw [hG]; exact hl1) (by omega)
    rw [hG]
    exact Int.mul_emod_left _ _
  have hL : IntKind.u64.wrap (lo * G) = lo * G % 18446744073709551616 := IntKind.wrap_u64 _
  have hlo : lo * G / 18446744073709551616 = lo / H := by
    rw [← hpp, Int.mul_comm lo G]
    exact Int.mul_ediv_mul_of_pos _ _ hp
  have hY : y * G = y * G / 4294967296 * 4294967296 + y * G % 4294967296 := by omega
  have d1 : DIn (hi * G + lo / H) (lo * G % 18446744073709551616 / 4294967296) (y * G / 4294967296) (y * G % 4294967296) :=
    ⟨by omega, by omega, by omega, by omega, by omega, by omega, by omega, by omega⟩
  have l1 := left d1
  have dq := d1.quo
  rw [← hY] at l1 dq
  have hN : ((hi * G + lo / H) * 4294967296 + lo * G % 18446744073709551616 / 4294967296) * 4294967296 + lo * G % 18446744073709551616 % 4294967296 = (hi * 18446744073709551616 + lo) * G := by
    have : (hi * 18446744073709551616 + lo) * G = hi * G * 18446744073709551616 + lo * G := by grind
    rw [this]
    omega
  generalize hun : hi * G + lo / H = un at *
  generalize hu : lo * G % 18446744073709551616 / 4294967296 = u at *
  generalize hv : lo * G % 18446744073709551616 % 4294967296 = v at *
  have two := two_digits (U := un * 4294967296 + u) (V := v) (y := y * G) (by omega)
  rw [hN] at two
  generalize hQ : (un * 4294967296 + u) / (y * G) = Q at *
  have hT : IntKind.u64.wrap (IntKind.u64.wrap (IntKind.u64.wrap (un * 4294967296) + u) - IntKind.u64.wrap (Q * (y * G))) = un * 4294967296 + u - Q * (y * G) := by
    simp only [IntKind.wrap_u64]
    generalize Q * (y * G) = p at *
    omega
  have d2 : DIn (un * 4294967296 + u - Q * (y * G)) v (y * G / 4294967296) (y * G % 4294967296) :=
    ⟨d1.a0, d1.a1, d1.c0, d1.c1, by omega, by omega, by omega, by omega⟩
  have l2 := left d2
  rw [← hY] at l2
  generalize hT2 : un * 4294967296 + u - Q * (y * G) = T at *
  generalize hP : (T * 4294967296 + v) / (y * G) = P at *
  have hR : IntKind.u64.wrap (IntKind.u64.wrap (IntKind.u64.wrap (T * 4294967296) + v) - IntKind.u64.wrap (P * (y * G))) = T * 4294967296 + v - P * (y * G) := by
    simp only [IntKind.wrap_u64]
    generalize P * (y * G) = p at *
    omega
  have core := div64_core hi lo y s h0 h1 h2 h3 h4 s62 (fun w => lz y s (by omega) h2 s1 w) (y * G) (y * G / 4294967296) (y * G % 4294967296) un (lo * G % 18446744073709551616) u v Q T P (T * 4294967296 + v - P * (y * G))
    (by rw [hG]; exact wy) rfl (and_low32 _ (by omega) (by omega)) (by rw [hG]; exact hL) (by rw [hG, hH, wh]; exact hor) hu (by rw [and_low32 _ (by omega) (by omega)]; exact hv) hY d1 (by rw [← hY]; exact hQ) hT d2 (by rw [← hY]; exact hP) hR w
  have e1 : Q * 4294967296 + P = (hi * 18446744073709551616 + lo) / y := by
    rw [← two.1]
    exact Int.mul_ediv_mul_of_pos_left _ _ hp
  have e2 : (T * 4294967296 + v - P * (y * G)) / 2 ^ s = (hi * 18446744073709551616 + lo) % y := by
    have e3 : (T * 4294967296 + v) % (y * G) = T * 4294967296 + v - P * (y * G) := by
      have := Int.emod_add_mul_ediv (T * 4294967296 + v) (y * G)
      rw [hP] at this
      have c : y * G * P = P * (y * G) := Int.mul_comm _ _
      omega
    rw [← e3, ← two.2, hG, Int.mul_comm _ G, Int.mul_comm y G, Int.mul_emod_mul_of_pos _ _ hp]
    exact Int.mul_ediv_cancel_left _ (by omega)
  rw [e1, e2] at core
  exact core
end Go.Proofs.YtmpkjlifcdobiaaDoor.Dv
