/- The contracts of root.Floor, root.Ceil, root.Quotient and of the reference's functions of the same names: what they return for every number. -/
import Derived.Test.YtgdhgeongdenpaaRows
import Derived.Test.YtgdhgeongdenpaaRootMath
import Derived.WalkKit
import Derived.WalkLawsBesides
import Derived.WalkSpells
import Derived.Outline
import Derived.Lib.Hide
import Derived.IntWalk
import Derived.WalkMore
import Derived.Deep.QuietTactic
import Derived.BigQuiet
namespace Go.Proofs.Ytgdhgeongdenpaa.Rt
open Go.ChangeShapes Go.WideShapes Go.RowKit
set_option linter.unusedVariables false
theorem ret_int {k : IntKind} {a b : Int} (h : a = b) : Ending.returned (.int k a) = .returned (.int k b) := by rw [h]
theorem ret_int2 {k : IntKind} {a b c : Int} (h : a = b) : Ending.returned (.tuple #[.int k a, .int k c]) = .returned (.tuple #[.int k b, .int k c]) := by rw [h]
set_option maxHeartbeats 400000 in
theorem floor_any (n : Int) (w : World) :
    Calls Try.prog 94 #[.int .i64 n] w fun e w' => e = .returned (.int .i64 (flo n)) ∧ w = w' := by
  rcases Classical.em (n < 0) with h0 | h0
  · have b0 : decide (n < 0) = true := by simpa using h0
    go_enter Try.func94, Try.ntmps94
    go_wp2
    go_step3
    go_wp2
    rw [Exit.noGoto_ret]
    go_ret
    exact ⟨ret_int (flo_out (.inl h0)).symm, rfl⟩
  · rcases Classical.em (4611686018427387904 < n) with h1 | h1
    · have b0 : decide (n < 0) = false := by simpa using h0
      have b1 : decide (4611686018427387904 < n) = true := by simpa using h1
      go_enter Try.func94, Try.ntmps94
      go_wp2
      go_step3
      go_wp2
      rw [Exit.noGoto_ret]
      go_ret
      exact ⟨ret_int (flo_out (.inr h1)).symm, rfl⟩
    · have b0 : decide (n < 0) = false := by simpa using h0
      have b1 : decide (4611686018427387904 < n) = false := by simpa using h1
      go_enter Try.func94, Try.ntmps94
      go_wp2
      go_step3
      go_wp2
      go_step3
      go_wp2
      go_loop [3, 4, 5] (fun r s b => ∃ (k : Nat) (x : Int), Rel n x k ∧ r = .int .i64 x ∧ s = .int .i64 (n - x * x) ∧ b = .int .i64 (bitv k)) (fun _ _ b => (intOf b).toNat)
      case atStart => exact ⟨32, 0, rel_start (by omega) (by omega), rfl, by simp, rfl⟩
      case round =>
        obtain ⟨k, x, hr, rfl, rfl, rfl⟩ := hrel
        have hx0 := hr.1
        have hx1 := hr.2.1
        have hx2 := hr.2.2.1
        have hx3 : 0 ≤ x * x := Int.mul_nonneg hx0 hx0
        cases k with
        | zero =>
          have hfin := rel_end hr
          have HF := Lib.hid hfin
          clear hfin hr
          have hb0 : decide (0 < bitv 0) = false := by decide
          go_wp2
          go_ret
          exact ⟨ret_int (by rw [flo_in (by omega) (by omega), HF.out]), rfl⟩
        | succ k =>
          have hb1 := bitv_pos k
          have hb2 := (bitv_le (k := k + 1) hr.2.2.2.2.2).2
          have hm1 := (rel_bd hr).1
          have hm2 := (rel_bd hr).2
          have hh := bitv_half k
          have hyes := fun h => rel_yes (n := n) (r := x) (k := k) hr (by omega) h
          have hno := fun h => rel_no (n := n) (r := x) (k := k) hr h
          have hiff := rel_more (n := n) (r := x) (b := bitv (k + 1))
          have hend : n - x * x = 0 → isq n = x := fun h => isq_uniq hx0 (by omega) (by have e : (x + 1) * (x + 1) = x * x + 2 * x + 1 := by grind
                                                                                        omega)
          generalize hbb : bitv (k + 1) = b at *
          have HB := Lib.hid hbb
          have HH := Lib.hid hh
          have HY := Lib.hid hyes
          have HN := Lib.hid hno
          have HI := Lib.hid hiff
          have HE := Lib.hid hend
          clear hbb hh hyes hno hiff hend hr
          rcases Classical.em (n - x * x = 0) with hz | hz
          · have hz' : (n - x * x == 0) = true := by simpa using hz
            have hz2 := HE.out hz
            have HE2 := Lib.hid hz2
            clear hz2
            have HZ := Lib.hid hz
            clear hz
            go_wp2
            first | rw [Exit.noGoto_ret] | skip
            go_ret
            exact ⟨ret_int (by rw [flo_in (by omega) (by omega), HE2.out]), rfl⟩
          · have hz' : (n - x * x == 0) = false := by simpa using hz
            have HZ := Lib.hid hz
            clear hz
            rcases Classical.em ((2 * x + b) * b ≤ n - x * x) with hm | hm
            · go_wp2
              go_round
              case rel => exact ⟨k, x + b, HY.out (HI.out.1 hm), rfl, congrArg (Value.int .i64) rel_next, by rw [HH.out]⟩
              case measure => simp [intOf]; omega
            · go_wp2
              go_round
              case rel => exact ⟨k, x, HN.out (fun h => hm (HI.out.2 h)), rfl, rfl, by rw [HH.out]⟩
              case measure => simp [intOf]; omega

set_option maxHeartbeats 400000 in
theorem rfloor_any (n : Int) (w : World) :
    Calls Try.prog 127 #[.int .i64 n] w fun e w' => e = .returned (.int .i64 (flo n)) ∧ w = w' := by
  rcases Classical.em (n < 0) with h0 | h0
  · have b0 : decide (n < 0) = true := by simpa using h0
    go_enter Try.func127, Try.ntmps127
    go_wp2
    go_ret
    exact ⟨ret_int (flo_out (.inl h0)).symm, rfl⟩
  · rcases Classical.em (4611686018427387904 < n) with h1 | h1
    · have b0 : decide (n < 0) = false := by simpa using h0
      have b1 : decide (4611686018427387904 < n) = true := by simpa using h1
      go_enter Try.func127, Try.ntmps127
      go_wp2
      go_ret
      exact ⟨ret_int (flo_out (.inr h1)).symm, rfl⟩
    · have b0 : decide (n < 0) = false := by simpa using h0
      have b1 : decide (4611686018427387904 < n) = false := by simpa using h1
      go_enter Try.func127, Try.ntmps127
      go_wp2
      go_loop [3, 4] (fun r b => ∃ (k : Nat) (x : Int), Rel n x k ∧ r = .int .i64 x ∧ b = .int .i64 (bitv k)) (fun _ b => (intOf b).toNat)
      case atStart => exact ⟨32, 0, rel_start (by omega) (by omega), rfl, rfl⟩
      case round =>
        obtain ⟨k, x, hr, rfl, rfl⟩ := hrel
        have hx0 := hr.1
        have hx1 := hr.2.1
        cases k with
        | zero =>
          have hfin := rel_end hr
          have HF := Lib.hid hfin
          clear hfin hr
          have hb0 : decide (0 < bitv 0) = false := by decide
          go_wp2
          go_ret
          exact ⟨ret_int (by rw [flo_in (by omega) (by omega), HF.out]), rfl⟩
        | succ k =>
          have hb1 := bitv_pos k
          have hb2 := (bitv_le (k := k + 1) hr.2.2.2.2.2).2
          have hh := bitv_half k
          have hyes := fun h => rel_yes (n := n) (r := x) (k := k) hr (by omega) h
          have hno := fun h => rel_no (n := n) (r := x) (k := k) hr h
          generalize hbb : bitv (k + 1) = b at *
          have HB := Lib.hid hbb
          have HH := Lib.hid hh
          have HY := Lib.hid hyes
          have HN := Lib.hid hno
          clear hbb hh hyes hno hr
          have hp0 : 0 ≤ (x + b) * (x + b) := Int.mul_nonneg (by omega) (by omega)
          rcases Classical.em ((x + b) * (x + b) ≤ n) with hm | hm
          · have hl : x + b ≤ 2147483648 := of_sq_le (by omega) (by decide)
            go_wp2
            go_round
            case rel => exact ⟨k, x + b, HY.out hm, rfl, by rw [HH.out]⟩
            case measure => simp [intOf]; omega
          · rcases Classical.em (x + b ≤ 2147483648) with hl | hl
            · have hp1 : (x + b) * (x + b) ≤ 4611686018427387904 := sq_mono hl (by omega)
              go_wp2
              go_round
              case rel => exact ⟨k, x, HN.out hm, rfl, by rw [HH.out]⟩
              case measure => simp [intOf]; omega
            · go_wp2
              go_round
              case rel => exact ⟨k, x, HN.out hm, rfl, by rw [HH.out]⟩
              case measure => simp [intOf]; omega

set_option maxHeartbeats 400000 in
theorem ceil_any (n : Int) (w : World) :
    Calls Try.prog 107 #[.int .i64 n] w fun e w' => e = .returned (.int .i64 (cei n)) ∧ w = w' := by
  have hfb := flo_bd n
  have hf0 := hfb.1
  have hf1 := hfb.2
  have hsq0 : 0 ≤ flo n * flo n := Int.mul_nonneg hf0 hf0
  have hsq1 : flo n * flo n ≤ 4611686018427387904 := sq_mono hf1 hf0
  clear hfb
  rcases Classical.em (n < 0) with h0 | h0
  · have HC := Lib.hid ((cei_out (n := n) (.inl h0)).trans (flo_out (n := n) (.inl h0)).symm)
    go_enter Try.func107, Try.ntmps107
    go_wp2_with (go_at_call 94; refine (floor_any _ _).mono ?_; rintro e w' ⟨rfl, rfl⟩)
    go_ret
    exact ⟨ret_int HC.out.symm, rfl⟩
  · rcases Classical.em (4611686018427387904 < n) with h1 | h1
    · have HC := Lib.hid ((cei_out (n := n) (.inr h1)).trans (flo_out (n := n) (.inr h1)).symm)
      go_enter Try.func107, Try.ntmps107
      go_wp2_with (go_at_call 94; refine (floor_any _ _).mono ?_; rintro e w' ⟨rfl, rfl⟩)
      go_ret
      exact ⟨ret_int HC.out.symm, rfl⟩
    · have HF := Lib.hid (flo_in (n := n) (by omega) (by omega))
      rcases Classical.em (n = 0) with hz | hz
      · have HC : Hid (flo n = cei n) := by
          have hz' : isq n * isq n = n := by rw [hz, isq_zero]; rfl
          exact HF.out.trans (cei_eq (by omega) (by omega) (by omega)).symm
        have hn0 : ¬ 0 < n := by omega
        have hn1 : n ≤ 0 := by omega
        clear hz
        have hsq2 : ¬ flo n * flo n < n := by omega
        go_enter Try.func107, Try.ntmps107
        go_wp2_with (go_at_call 94; refine (floor_any _ _).mono ?_; rintro e w' ⟨rfl, rfl⟩)
        go_ret
        exact ⟨ret_int HC.out, rfl⟩
      · have hn0 : 0 < n := by omega
        rcases Classical.em (flo n * flo n < n) with hm | hm
        · have HC : Hid (flo n + 1 = cei n) := by
            have := cei_up (n := n) (by omega) (by omega) (by rw [← HF.out]; exact hm)
            rw [this, HF.out]; exact rfl
          go_enter Try.func107, Try.ntmps107
          go_wp2_with (go_at_call 94; refine (floor_any _ _).mono ?_; rintro e w' ⟨rfl, rfl⟩)
          go_ret
          exact ⟨ret_int HC.out, rfl⟩
        · have HC : Hid (flo n = cei n) := by
            have := cei_eq (n := n) (by omega) (by omega) (by rw [← HF.out]; exact hm)
            rw [this, HF.out]; exact rfl
          go_enter Try.func107, Try.ntmps107
          go_wp2_with (go_at_call 94; refine (floor_any _ _).mono ?_; rintro e w' ⟨rfl, rfl⟩)
          go_ret
          exact ⟨ret_int HC.out, rfl⟩

set_option maxHeartbeats 400000 in
theorem rceil_any (n : Int) (w : World) :
    Calls Try.prog 128 #[.int .i64 n] w fun e w' => e = .returned (.int .i64 (cei n)) ∧ w = w' := by
  have hfb := flo_bd n
  have hf0 := hfb.1
  have hf1 := hfb.2
  have hsq0 : 0 ≤ flo n * flo n := Int.mul_nonneg hf0 hf0
  have hsq1 : flo n * flo n ≤ 4611686018427387904 := sq_mono hf1 hf0
  clear hfb
  rcases Classical.em (n < 0) with h0 | h0
  · have HC := Lib.hid ((cei_out (n := n) (.inl h0)).trans (flo_out (n := n) (.inl h0)).symm)
    go_enter Try.func128, Try.ntmps128
    go_wp2_with (go_at_call 127; refine (rfloor_any _ _).mono ?_; rintro e w' ⟨rfl, rfl⟩)
    go_ret
    exact ⟨ret_int HC.out.symm, rfl⟩
  · rcases Classical.em (4611686018427387904 < n) with h1 | h1
    · have HC := Lib.hid ((cei_out (n := n) (.inr h1)).trans (flo_out (n := n) (.inr h1)).symm)
      go_enter Try.func128, Try.ntmps128
      go_wp2_with (go_at_call 127; refine (rfloor_any _ _).mono ?_; rintro e w' ⟨rfl, rfl⟩)
      go_ret
      exact ⟨ret_int HC.out.symm, rfl⟩
    · have HF := Lib.hid (flo_in (n := n) (by omega) (by omega))
      rcases Classical.em (n = 0) with hz | hz
      · have HC : Hid (flo n = cei n) := by
          have hz' : isq n * isq n = n := by rw [hz, isq_zero]; rfl
          exact HF.out.trans (cei_eq (by omega) (by omega) (by omega)).symm
        have hn0 : ¬ 0 < n := by omega
        have hn1 : n ≤ 0 := by omega
        clear hz
        have hsq2 : ¬ flo n * flo n < n := by omega
        go_enter Try.func128, Try.ntmps128
        go_wp2_with (go_at_call 127; refine (rfloor_any _ _).mono ?_; rintro e w' ⟨rfl, rfl⟩)
        go_ret
        exact ⟨ret_int HC.out, rfl⟩
      · have hn0 : 0 < n := by omega
        rcases Classical.em (flo n * flo n < n) with hm | hm
        · have HC : Hid (flo n + 1 = cei n) := by
            have := cei_up (n := n) (by omega) (by omega) (by rw [← HF.out]; exact hm)
            rw [this, HF.out]; exact rfl
          go_enter Try.func128, Try.ntmps128
          go_wp2_with (go_at_call 127; refine (rfloor_any _ _).mono ?_; rintro e w' ⟨rfl, rfl⟩)
          go_ret
          exact ⟨ret_int HC.out, rfl⟩
        · have HC : Hid (flo n = cei n) := by
            have := cei_eq (n := n) (by omega) (by omega) (by rw [← HF.out]; exact hm)
            rw [this, HF.out]; exact rfl
          go_enter Try.func128, Try.ntmps128
          go_wp2_with (go_at_call 127; refine (rfloor_any _ _).mono ?_; rintro e w' ⟨rfl, rfl⟩)
          go_ret
          exact ⟨ret_int HC.out, rfl⟩

theorem quo_out (t e : Int) (w : World) (h : ¬ QIn t e) :
    Calls Try.prog 51 #[.int .i64 t, .int .i64 e] w fun r w' => r = .returned (.tuple #[.int .i64 0, .int .i64 1]) ∧ w = w' := by
  unfold QIn at h
  rcases Classical.em (t < -2147483648) with h1 | h1
  · have b1 : decide (t < -2147483648) = true := by simpa using h1
    go_enter Try.func51, Try.ntmps51
    go_wp2
    go_ret2
    exact ⟨rfl, rfl⟩
  · have b1 : decide (t < -2147483648) = false := by simpa using h1
    rcases Classical.em (2147483648 < t) with h2 | h2
    · have b2 : decide (2147483648 < t) = true := by simpa using h2
      go_enter Try.func51, Try.ntmps51
      go_wp2
      go_ret2
      exact ⟨rfl, rfl⟩
    · have b2 : decide (2147483648 < t) = false := by simpa using h2
      rcases Classical.em (e < 1) with h3 | h3
      · have b3 : decide (e < 1) = true := by simpa using h3
        go_enter Try.func51, Try.ntmps51
        go_wp2
        go_ret2
        exact ⟨rfl, rfl⟩
      · have b3 : decide (e < 1) = false := by simpa using h3
        have b4 : decide (4611686018427387904 < e) = true := by simp; omega
        go_enter Try.func51, Try.ntmps51
        go_wp2
        go_ret2
        exact ⟨rfl, rfl⟩

set_option maxHeartbeats 400000 in
theorem quo_in (t e : Int) (w : World) (h : QIn t e) :
    Calls Try.prog 51 #[.int .i64 t, .int .i64 e] w fun r w' => r = .returned (.tuple #[.int .i64 (quo t e), .int .i64 0]) ∧ w = w' := by
  have HQ := Lib.hid h
  obtain ⟨h1, h2, h3, h4⟩ := h
  have a := sq_bd h1 h2
  have a0 := a.1
  have a1 := a.2
  have d := div_bd a0 a1 h3
  have d0 := d.1
  have d1 := d.2
  have b1 : decide (t < -2147483648) = false := by simpa using h1
  have b2 : decide (2147483648 < t) = false := by simpa using h2
  have b3 : decide (e < 1) = false := by simpa using h3
  have b4 : decide (4611686018427387904 < e) = false := by simpa using h4
  clear a d
  have HF := Lib.hid (flo_in (n := t * t / e) d0 d1)
  have hfb := flo_bd (t * t / e)
  have f0 := hfb.1
  have f1 := hfb.2
  have hq := qq_le HQ.out
  rw [← HF.out] at hq
  have q0 := hq.1
  have q1 := hq.2
  have q2 : 0 ≤ flo (t * t / e) * flo (t * t / e) := Int.mul_nonneg f0 f0
  have q3 : flo (t * t / e) * flo (t * t / e) ≤ 4611686018427387904 := sq_mono f1 f0
  clear hfb hq
  rcases Classical.em (0 ≤ t) with ht | ht
  · have HC : Hid (flo (t * t / e) = quo t e) := HF.out.trans (quo_pos ht).symm
    go_enter Try.func51, Try.ntmps51
    go_wp2_with (go_at_call 94; refine (floor_any _ _).mono ?_; rintro r w' ⟨rfl, rfl⟩)
    go_ret2
    exact ⟨ret_int2 HC.out, rfl⟩
  · rcases Classical.em (flo (t * t / e) * flo (t * t / e) * e < t * t) with hm | hm
    · have HC : Hid (-(flo (t * t / e) + 1) = quo t e) := by
        have := quo_up (t := t) (e := e) (by omega) (by rw [← HF.out]; exact hm)
        rw [this, HF.out]; exact rfl
      go_enter Try.func51, Try.ntmps51
      go_wp2_with (go_at_call 94; refine (floor_any _ _).mono ?_; rintro r w' ⟨rfl, rfl⟩)
      go_ret2
      exact ⟨ret_int2 HC.out, rfl⟩
    · have HC : Hid (-flo (t * t / e) = quo t e) := by
        have := quo_eq (t := t) (e := e) (by omega) (by rw [← HF.out]; exact hm)
        rw [this, HF.out]; exact rfl
      go_enter Try.func51, Try.ntmps51
      go_wp2_with (go_at_call 94; refine (floor_any _ _).mono ?_; rintro r w' ⟨rfl, rfl⟩)
      go_ret2
      exact ⟨ret_int2 HC.out, rfl⟩

theorem rquo_out (t e : Int) (w : World) (h : ¬ QIn t e) :
    Calls Try.prog 114 #[.int .i64 t, .int .i64 e] w fun r w' => r = .returned (.tuple #[.int .i64 0, .int .i64 1]) ∧ w = w' := by
  unfold QIn at h
  rcases Classical.em (t < -2147483648) with h1 | h1
  · have b1 : decide (t < -2147483648) = true := by simpa using h1
    go_enter Try.func114, Try.ntmps114
    go_wp2
    go_ret2
    exact ⟨rfl, rfl⟩
  · have b1 : decide (t < -2147483648) = false := by simpa using h1
    rcases Classical.em (2147483648 < t) with h2 | h2
    · have b2 : decide (2147483648 < t) = true := by simpa using h2
      go_enter Try.func114, Try.ntmps114
      go_wp2
      go_ret2
      exact ⟨rfl, rfl⟩
    · have b2 : decide (2147483648 < t) = false := by simpa using h2
      rcases Classical.em (e < 1) with h3 | h3
      · have b3 : decide (e < 1) = true := by simpa using h3
        go_enter Try.func114, Try.ntmps114
        go_wp2
        go_ret2
        exact ⟨rfl, rfl⟩
      · have b3 : decide (e < 1) = false := by simpa using h3
        have b4 : decide (4611686018427387904 < e) = true := by simp; omega
        go_enter Try.func114, Try.ntmps114
        go_wp2
        go_ret2
        exact ⟨rfl, rfl⟩

set_option maxHeartbeats 400000 in
theorem rquo_in (t e : Int) (w : World) (h : QIn t e) :
    Calls Try.prog 114 #[.int .i64 t, .int .i64 e] w fun r w' => r = .returned (.tuple #[.int .i64 (quo t e), .int .i64 0]) ∧ w = w' := by
  have HQ := Lib.hid h
  obtain ⟨h1, h2, h3, h4⟩ := h
  have a := sq_bd h1 h2
  have a0 := a.1
  have a1 := a.2
  have d := div_bd a0 a1 h3
  have d0 := d.1
  have d1 := d.2
  have b1 : decide (t < -2147483648) = false := by simpa using h1
  have b2 : decide (2147483648 < t) = false := by simpa using h2
  have b3 : decide (e < 1) = false := by simpa using h3
  have b4 : decide (4611686018427387904 < e) = false := by simpa using h4
  clear a d
  rcases Classical.em (0 ≤ t) with ht | ht
  · have HC : Hid (flo (t * t / e) = quo t e) := (flo_in d0 d1).trans (quo_pos ht).symm
    go_enter Try.func114, Try.ntmps114
    go_wp2_with (go_at_call 127; refine (rfloor_any _ _).mono ?_; rintro r w' ⟨rfl, rfl⟩)
    go_ret2
    exact ⟨ret_int2 HC.out, rfl⟩
  · rcases Classical.em (t * t % e = 0) with hm | hm
    · have HC := Lib.hid (quo_cei0 HQ.out (by omega) hm)
      have hcb := cei_bd (t * t / e)
      have c0 := hcb.1
      have c1 := hcb.2
      clear hcb
      have hb : (t * t % e == 0) = true := by simpa using hm
      have hb2 : (t * t % e != 0) = false := by simpa using hm
      clear hm
      go_enter Try.func114, Try.ntmps114
      go_wp2_with (go_at_call 128; refine (rceil_any _ _).mono ?_; rintro r w' ⟨rfl, rfl⟩)
      go_ret2
      exact ⟨ret_int2 HC.out, rfl⟩
    · have hc := quo_cei1 HQ.out (by omega) hm
      have HC := Lib.hid hc.1
      have c2 := hc.2
      have hcb := cei_bd (t * t / e + 1)
      have c0 := hcb.1
      have c1 := hcb.2
      clear hcb hc
      have hb : (t * t % e == 0) = false := by simpa using hm
      have hb2 : (t * t % e != 0) = true := by simpa using hm
      go_enter Try.func114, Try.ntmps114
      go_wp2_with (go_at_call 128; refine (rceil_any _ _).mono ?_; rintro r w' ⟨rfl, rfl⟩)
      go_ret2
      exact ⟨ret_int2 HC.out, rfl⟩

theorem quiet_left {P : Program} {f : FuncId} {args : Array Value} {w : World} {n : Nat} {v : Value}
    (h : Calls P f args (w.drewN n) fun e w' => e = .returned v ∧ w.drewN n = w') : Calls P f args (w.drewN n) fun e w'' => e = .returned v ∧ ∃ m, w'' = w.drewN m :=
  h.mono fun _ _ ⟨he, hm⟩ => ⟨he, n, hm.symm⟩
theorem flo8 : flo 8 = 2 := (flo_in (by decide) (by decide)).trans (isq_uniq (by decide) (by decide) (by decide))
theorem cei8 : cei 8 = 3 := by
  have h : isq 8 = 2 := isq_uniq (by decide) (by decide) (by decide)
  rw [cei_up (by decide) (by decide) (by rw [h]; decide), h]; rfl
theorem cei9 : cei 9 = 3 := by
  have h : isq 9 = 3 := isq_uniq (by decide) (by decide) (by decide)
  rw [cei_eq (by decide) (by decide) (by rw [h]; decide), h]
theorem quo10 : quo (-10) 2 = -8 := by
  have h : isq (-10 * -10 / 2) = 7 := isq_uniq (by decide) (by decide) (by decide)
  rw [quo_up (by decide) (by rw [h]; decide), h]; rfl
end Go.Proofs.Ytgdhgeongdenpaa.Rt
