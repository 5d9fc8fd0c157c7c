/- The contracts of math/bits.Rem64 and Div64 where the high half is 0, and of ratio.plus. -/
import Derived.Test.YtkonknkoggfeaaaRatioPV
import Derived.Laws.Externs
namespace Go.Proofs.Ytkonknkoggfeaaa.Ra
open Go.ChangeShapes Go.WideShapes Go.RowKit Wo
set_option linter.unusedVariables false
theorem div64_low (lo y : Int) (h0 : 0 ≤ lo) (h1 : lo ≤ 18446744073709551615) (hy : 1 ≤ y) (hy1 : y ≤ 18446744073709551615) (w : World) :
    Calls Try.prog 67 #[.int .u64 0, .int .u64 lo, .int .u64 y] w fun e w' => e = .returned (.tuple #[.int .u64 (lo / y), .int .u64 (lo % y)]) ∧ ∃ m, w' = w.drewN m := by
  have b1 : (y == 0) = false := by simp; omega
  have b2 : ¬ y ≤ 0 := by omega
  have c0 : 0 ≤ lo / y := Int.ediv_nonneg h0 (by omega)
  have c1 : lo / y ≤ lo := Int.ediv_le_self _ h0
  have c2 : 0 ≤ lo % y := Int.emod_nonneg _ (by omega)
  have c3 : lo % y < y := Int.emod_lt_of_pos _ (by omega)
  go_enter Try.func67, Try.ntmps67
  go_wp2
  go_quiet (fail)
  go_wp2
  go_ret2
  exact ⟨rfl, _, rfl⟩
theorem rem64_low (lo y : Int) (h0 : 0 ≤ lo) (h1 : lo ≤ 18446744073709551615) (hy : 1 ≤ y) (hy1 : y ≤ 18446744073709551615) (w : World) :
    Calls Try.prog 66 #[.int .u64 0, .int .u64 lo, .int .u64 y] w fun e w' => e = .returned (.int .u64 (lo % y)) ∧ ∃ m, w' = w.drewN m := by
  have b1 : (y == 0) = false := by simp; omega
  go_enter Try.func66, Try.ntmps66
  go_wp2_with (go_at_call 67; refine (div64_low _ _ h0 h1 hy hy1 _).mono ?_; rintro e w1 ⟨rfl, m, rfl⟩)
  go_ret
  exact ⟨rfl, _, rfl⟩
theorem div64_bel (lo y : Int) (h0 : 0 ≤ lo) (h1 : lo ≤ 18446744073709551615) (hy : 1 ≤ y) (hy1 : y ≤ 18446744073709551615) (w : World) :
    Calls Try.prog 67 #[.int .u64 0, .int .u64 lo, .int .u64 y] w fun e w' => e = .returned (.tuple #[.int .u64 (lo / y), .int .u64 (lo % y)]) ∧ Bel w w' :=
  (div64_low lo y h0 h1 hy hy1 w).mono fun _ _ ⟨he, m, hm⟩ => ⟨he, hm ▸ Bel.rf.drwN m⟩
theorem rem64_bel (lo y : Int) (h0 : 0 ≤ lo) (h1 : lo ≤ 18446744073709551615) (hy : 1 ≤ y) (hy1 : y ≤ 18446744073709551615) (w : World) :
    Calls Try.prog 66 #[.int .u64 0, .int .u64 lo, .int .u64 y] w fun e w' => e = .returned (.int .u64 (lo % y)) ∧ Bel w w' :=
  (rem64_low lo y h0 h1 hy hy1 w).mono fun _ _ ⟨he, m, hm⟩ => ⟨he, hm ▸ Bel.rf.drwN m⟩
theorem divisor_bel (a b : Int) (ha : 0 ≤ a) (hb : 0 ≤ b) (w : World) :
    Calls Try.prog 61 #[.int .i64 a, .int .i64 b] w fun e w' => e = .returned (.int .i64 (gd a b)) ∧ Bel w w' :=
  (divisor_any a b ha hb w).mono fun _ _ ⟨he, m, hm⟩ => ⟨he, hm ▸ Bel.rf.drwN m⟩
theorem add64_run (x y c : Int) (hx : 0 ≤ x) (hy : 0 ≤ y) (hc0 : 0 ≤ c) (hc : c ≤ 1) (w : World) :
    (callFunc 70 #[.int .u64 x, .int .u64 y, .int .u64 c]).run Try.prog w = .ok (.value (.tuple #[.int .u64 ((x + y + c) % 18446744073709551616), .int .u64 ((x + y + c) / 18446744073709551616)])) w := by
  rw [run_callFunc_extern Try.func70 (by kernel_rfl) (by kernel_rfl) (by kernel_rfl) (e := add64Entry) (by kernel_rfl), run_add64 x y c hx hy hc0 hc]
  rfl
theorem plus_any (ah al bh bl : Int) (p0 : 0 ≤ ah) (p1 : 0 ≤ al) (p2 : 0 ≤ bh) (p3 : 0 ≤ bl) (q1 : al < 18446744073709551616) (q3 : bl < 18446744073709551616) (w : World) :
    Calls Try.prog 64 #[.agg #[.int .u64 ah, .int .u64 al], .agg #[.int .u64 bh, .int .u64 bl]] w fun e w' =>
      e = .returned (.agg #[.int .u64 ((ah + bh + (al + bl + 0) / 18446744073709551616) % 18446744073709551616), .int .u64 ((al + bl + 0) % 18446744073709551616)]) ∧
        ((w.alloc (.cells #[.int .u64 ah, .int .u64 al] 83)).alloc (.cells #[.int .u64 bh, .int .u64 bl] 83)).alloc (.cells #[.int .u64 ((ah + bh + (al + bl + 0) / 18446744073709551616) % 18446744073709551616), .int .u64 ((al + bl + 0) % 18446744073709551616)] 83) = w' := by
  have c0 : 0 ≤ (al + bl + 0) / 18446744073709551616 := by omega
  have c1 : (al + bl + 0) / 18446744073709551616 ≤ 1 := by omega
  have r1 := fun w => add64_run al bl 0 p1 p3 (by decide) (by decide) w
  have r2 := fun w => add64_run ah bh _ p0 p2 c0 c1 w
  generalize (al + bl + 0) / 18446744073709551616 = c at *
  generalize (al + bl + 0) % 18446744073709551616 = lo at *
  generalize (ah + bh + c) % 18446744073709551616 = hi at *
  generalize (ah + bh + c) / 18446744073709551616 = cc at *
  go_enter Try.func64, Try.ntmps64
  go_wp2
  exact bodyPost_ret (v := .agg #[.int .u64 hi, .int .u64 lo]) (by simp [results, Try.results64, go_sem]) rfl ⟨rfl, rfl⟩
theorem product_low (a b : Int) (ha : 0 ≤ a) (hb : 0 ≤ b) (qa : a ≤ 9223372036854775807) (qb : b ≤ 9223372036854775807) (h : a * b < 18446744073709551616) (w : World) :
    Calls Try.prog 65 #[.int .i64 a, .int .i64 b] w fun e w' => e = .returned (.agg #[.int .u64 0, .int .u64 (a * b)]) ∧ w.alloc (.cells #[.int .u64 0, .int .u64 (a * b)] 83) = w' := by
  have p0 : 0 ≤ a * b := Int.mul_nonneg ha hb
  have e1 : a * b / 18446744073709551616 = 0 := by omega
  have e2 : a * b % 18446744073709551616 = a * b := by omega
  have := product_any a b ha hb qa qb w
  rw [e1, e2] at this
  exact this
theorem plus_low (a b : Int) (ha : 0 ≤ a) (hb : 0 ≤ b) (h : a + b < 18446744073709551616) (w : World) :
    Calls Try.prog 64 #[.agg #[.int .u64 0, .int .u64 a], .agg #[.int .u64 0, .int .u64 b]] w fun e w' =>
      e = .returned (.agg #[.int .u64 0, .int .u64 (a + b)]) ∧ ((w.alloc (.cells #[.int .u64 0, .int .u64 a] 83)).alloc (.cells #[.int .u64 0, .int .u64 b] 83)).alloc (.cells #[.int .u64 0, .int .u64 (a + b)] 83) = w' := by
  have := plus_any 0 a 0 b (by decide) ha (by decide) hb (by omega) (by omega) w
  have e1 : (0 + 0 + (a + b + 0) / 18446744073709551616) % 18446744073709551616 = 0 := by omega
  have e2 : (a + b + 0) % 18446744073709551616 = a + b := by omega
  rw [e1, e2] at this
  exact this
set_option maxHeartbeats 16000000 in
set_option maxRecDepth 100000 in
theorem add_num (b0 b1 : Nat) (n d m e g : Int) (w2 : World) (hg : 1 ≤ g) (n0 : 0 ≤ n) (m0 : 0 ≤ m) (n1 : n ≤ 2305843009213693952) (m1 : m ≤ 2305843009213693952)
    (x0 : 0 ≤ e / g) (x1 : e / g ≤ 1152921504606846976) (y0 : 0 ≤ d / g) (y1 : d / g ≤ 1152921504606846976) (h : n * (e / g) + m * (d / g) < 18446744073709551616) : True := trivial
end Go.Proofs.Ytkonknkoggfeaaa.Ra
