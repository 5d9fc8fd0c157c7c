/- The contracts of ratio.Valid and product, for a seat without the comparisons. -/
import Derived.Test.YtkonknkoggfeaaaRatioMake
import Derived.Test.YtkonknkoggfeaaaRatioMath
import Derived.Test.YtkonknkoggfeaaaShelf
import Derived.Test.YtkonknkoggfeaaaWords
import Derived.WalkKit
import Derived.WalkLawsBesides
import Derived.WalkSpells
import Derived.Outline
import Derived.Lib.Hide
import Derived.IntWalk
import Derived.WalkMore
import Derived.Deep.QuietTactic
import Derived.BigQuiet
import Derived.Laws.ResultCell
import Derived.Deep.RegionHeld3
import Derived.Deep.DeepCutAuto
namespace Go.Proofs.Ytkonknkoggfeaaa.Ra
open Go.ChangeShapes Go.WideShapes Go.RowKit Wo
set_option linter.unusedVariables false
set_option maxHeartbeats 400000 in
theorem valid_any (n d : Int) (w : World) :
    Calls Try.prog 63 #[.agg #[.int .i64 n, .int .i64 d]] w fun e w' => e = .returned (.bool (rv n d)) ∧ Bel w w' := by
  rcases Classical.em (RIn n d) with h | h
  · have hr := rin_yes h
    have h1 := h.1
    have h3 : 0 ≤ d := by have := h.2.2.1; omega
    have hq : (gd n d == 1) = rv n d := by
      rcases Classical.em (gd n d = 1) with g | g
      · rw [rv_yes ⟨h, g⟩, g]; rfl
      · rw [rv_no (fun x => g x.2)]; simpa using g
    have HR := Lib.hid hq
    clear hq
    clear h
    go_enter Try.func63, Try.ntmps63
    go_wp2_with (first | (go_at_call 62; refine (inRange_any _ _ _).mono ?_; rintro e w1 ⟨rfl, hb⟩; obtain ⟨hc, hf⟩ := hb.cells; have hsz := hb.size) | (go_at_call 61; refine (divisor_any _ _ h1 h3 _).mono ?_; rintro e w2 ⟨rfl, m, rfl⟩))
    go_ret
    exact ⟨ret_bool HR.out, ((Bel.rf.al _).tr hb).drwN _⟩
  · have hr := rin_no h
    have HR : Hid (false = rv n d) := (rv_no (fun x => h x.1)).symm
    clear h
    go_enter Try.func63, Try.ntmps63
    go_wp2_with (first | (go_at_call 62; refine (inRange_any _ _ _).mono ?_; rintro e w1 ⟨rfl, hb⟩; obtain ⟨hc, hf⟩ := hb.cells; have hsz := hb.size))
    go_ret
    exact ⟨ret_bool HR.out, (Bel.rf.al _).tr hb⟩
theorem product_any (a b : Int) (ha : 0 ≤ a) (hb : 0 ≤ b) (qa : a ≤ 9223372036854775807) (qb : b ≤ 9223372036854775807) (w : World) :
    Calls Try.prog 65 #[.int .i64 a, .int .i64 b] w fun e w' => e = .returned (.agg #[.int .u64 (a * b / 18446744073709551616), .int .u64 (a * b % 18446744073709551616)]) ∧ w.alloc (.cells #[.int .u64 (a * b / 18446744073709551616), .int .u64 (a * b % 18446744073709551616)] 83) = w' := by
  obtain ⟨x, rfl⟩ := Int.eq_ofNat_of_zero_le ha
  obtain ⟨y, rfl⟩ := Int.eq_ofNat_of_zero_le hb
  have he1 : (x : Int) * y / 18446744073709551616 = ((x * y / 18446744073709551616 : Nat) : Int) := rfl
  have he2 : (x : Int) * y % 18446744073709551616 = ((x * y % 18446744073709551616 : Nat) : Int) := rfl
  rw [he1, he2]
  generalize hp : x * y / 18446744073709551616 = p
  generalize hq : x * y % 18446744073709551616 = q
  have HM := Lib.hid (Try.bits_Mul64 x y (by omega) (by omega))
  rw [hp, hq] at HM
  clear he1 he2 hp hq
  go_enter Try.func65, Try.ntmps65
  go_wp2_with (first | (go_at_call 71; refine (HM.out _).mono ?_; rintro e w1 ⟨rfl, rfl⟩))
  exact bodyPost_ret (v := .agg #[.int .u64 (p : Int), .int .u64 (q : Int)]) (by simp [results, Try.results65, go_sem]) rfl ⟨rfl, rfl⟩
end Go.Proofs.Ytkonknkoggfeaaa.Ra
