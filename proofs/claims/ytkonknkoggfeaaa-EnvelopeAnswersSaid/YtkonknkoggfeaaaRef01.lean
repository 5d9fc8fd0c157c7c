/- The contracts of the reference's common, Valid, order, Cmp and Less over valid ratios (shapesearchref01). -/
import Derived.Test.YtkonknkoggfeaaaRatioMake
namespace Go.Proofs.Ytkonknkoggfeaaa.Ra
open Go.ChangeShapes Go.WideShapes Go.RowKit Wo
set_option linter.unusedVariables false
theorem common_any (a b : Int) (ha : 0 ≤ a) (hb : 0 ≤ b) (w : World) :
    Calls Try.prog 73 #[.int .i64 a, .int .i64 b] w fun e w' => e = .returned (.int .i64 (gd a b)) ∧ ∃ n, w' = w.drewN n := by
  go_enter Try.func73, Try.ntmps73
  go_wp2
  go_loopw [0, 1] (fun x y wr => ∃ p q : Int, x = .int .i64 p ∧ y = .int .i64 q ∧ 0 ≤ p ∧ 0 ≤ q ∧ gd p q = gd a b ∧ ∃ n, wr = w.drewN n) (fun _ y _ => (intOf y).toNat)
  case atStart => exact ⟨a, b, rfl, rfl, ha, hb, rfl, 0, rfl⟩
  case round =>
    obtain ⟨p, q, rfl, rfl, hp, hq, hg, n, rfl⟩ := hrel
    rcases Classical.em (q = 0) with hz | hz
    · subst hz
      have HG := Lib.hid hg
      clear hg
      go_wp2
      go_ret
      exact ⟨ret_int (by rw [← HG.out, gd_zero hp]), n, rfl⟩
    · have hq1 : 0 < q := by omega
      have hne : (q != 0) = true := by simpa using hz
      have HG : Hid (gd q (p % q) = gd a b) := (gd_step hp hq1).trans hg
      have hm0 : 0 ≤ p % q := Int.emod_nonneg _ (by omega)
      have hm1 : p % q < q := Int.emod_lt_of_pos _ hq1
      clear hg
      go_wp2
      go_quiet (fail)
      go_wp2
      go_roundw
      case rel => exact ⟨q, p % q, rfl, rfl, by omega, hm0, HG.out, _, World.drewN_drewN _ _ _⟩
      case measure => simp [intOf]; omega
theorem rvalid_ok (n d : Int) (h : RV n d) (w : World) :
    Calls Try.prog 74 #[.agg #[.int .i64 n, .int .i64 d]] w fun e w' => e = .returned (.bool true) ∧ Bel w w' := by
  have hg := h.2
  obtain ⟨⟨h0, h1, h2, h3⟩, -⟩ := h
  have HC : Hid (∀ W, Calls Try.prog 73 #[.int .i64 n, .int .i64 d] W fun e w' => e = .returned (.int .i64 1) ∧ Bel W w') := fun W =>
    (common_any n d (by omega) (by omega) W).mono fun e w' ⟨he, q, hq⟩ => ⟨by rw [he, hg], by rw [hq]; exact Bel.rf.drwN _⟩
  clear hg
  go_enter Try.func74, Try.ntmps74
  go_wp2_with (go_at_call 73; refine (HC.out _).mono ?_; rintro e w1 ⟨rfl, hb1⟩)
  go_ret
  exact ⟨rfl, (Bel.rf.al _).tr hb1⟩
theorem cmpI_sub {x y u v : Int} (h : x - y = u - v) : cmpI x y = cmpI u v := by
  rcases Int.lt_trichotomy x y with g | g | g
  · rw [cmpI_lt g, cmpI_lt (by omega)]
  · rw [cmpI_eq g, cmpI_eq (by omega)]
  · rw [cmpI_gt g, cmpI_gt (by omega)]
theorem quot_lt {a b c d p q r s : Int} (hb : 1 ≤ b) (hd : 1 ≤ d) (ea : a = p * b + r) (ec : c = q * d + s) (r1 : r < b) (s0 : 0 ≤ s) (h : p < q) : a * d < c * b := by
  have h1 : (p + 1) * b ≤ q * b := Int.mul_le_mul_of_nonneg_right (by omega) (by omega)
  have h2 : (p + 1) * b = p * b + b := by grind
  have h3 : a < q * b := by omega
  have h4 : a * d < q * b * d := Int.mul_lt_mul_of_pos_right h3 (by omega)
  have h5 : c * b = q * b * d + s * b := by rw [ec]; grind
  have h6 : 0 ≤ s * b := Int.mul_nonneg s0 (by omega)
  omega
end Go.Proofs.Ytkonknkoggfeaaa.Ra
