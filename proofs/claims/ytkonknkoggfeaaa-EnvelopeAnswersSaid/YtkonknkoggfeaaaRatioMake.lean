/- The contracts of the functions of ratio, and of the reference's functions of the same names. -/
import Derived.Test.YtkonknkoggfeaaaRows
import Derived.Test.YtkonknkoggfeaaaRatioMath
import Derived.Test.YtkonknkoggfeaaaWords
import Derived.WalkKit
import Derived.WalkLawsBesides
import Derived.WalkSpells
import Derived.Outline
import Derived.Lib.Hide
import Derived.IntWalk
import Derived.WalkMore
import Derived.Deep.QuietTactic
import Derived.BigQuiet
import Derived.Laws.ResultCell
import Derived.Deep.RegionHeld3
import Derived.Deep.DeepCutAuto
namespace Go.Proofs.Ytkonknkoggfeaaa.Ra
open Go.ChangeShapes Go.WideShapes Go.RowKit Wo
set_option linter.unusedVariables false
theorem divisor_any (a b : Int) (ha : 0 ≤ a) (hb : 0 ≤ b) (w : World) :
    Calls Try.prog 61 #[.int .i64 a, .int .i64 b] w fun e w' => e = .returned (.int .i64 (gd a b)) ∧ ∃ n, w' = w.drewN n := by
  go_enter Try.func61, Try.ntmps61
  go_wp2
  go_loopw [0, 1] (fun x y wr => ∃ p q : Int, x = .int .i64 p ∧ y = .int .i64 q ∧ 0 ≤ p ∧ 0 ≤ q ∧ gd p q = gd a b ∧ ∃ n, wr = w.drewN n) (fun _ y _ => (intOf y).toNat)
  case atStart => exact ⟨a, b, rfl, rfl, ha, hb, rfl, 0, rfl⟩
  case round =>
    obtain ⟨p, q, rfl, rfl, hp, hq, hg, n, rfl⟩ := hrel
    rcases Classical.em (q = 0) with hz | hz
    · subst hz
      have HG := Lib.hid hg
      clear hg
      go_wp2
      go_ret
      exact ⟨ret_int (by rw [← HG.out, gd_zero hp]), n, rfl⟩
    · have hq1 : 0 < q := by omega
      have hne : (q != 0) = true := by simpa using hz
      have HG : Hid (gd q (p % q) = gd a b) := (gd_step hp hq1).trans hg
      have hm0 : 0 ≤ p % q := Int.emod_nonneg _ (by omega)
      have hm1 : p % q < q := Int.emod_lt_of_pos _ hq1
      clear hg
      go_wp2
      go_quiet (fail)
      go_wp2
      go_roundw
      case rel => exact ⟨q, p % q, rfl, rfl, by omega, hm0, HG.out, _, World.drewN_drewN _ _ _⟩
      case measure => simp [intOf]; omega
theorem inRange_any (n d : Int) (w : World) :
    Calls Try.prog 62 #[.agg #[.int .i64 n, .int .i64 d]] w fun e w' => e = .returned (.bool (rin n d)) ∧ Bel w w' := by
  rcases Classical.em (RIn n d) with h | h
  · rw [rin_yes h]
    obtain ⟨h1, h2, h3, h4⟩ := h
    have b1 : decide (0 ≤ n) = true := by simpa using h1
    have b2 : decide (n ≤ 2305843009213693952) = true := by simpa using h2
    have b3 : decide (1 ≤ d) = true := by simpa using h3
    have b4 : decide (d ≤ 1152921504606846976) = true := by simpa using h4
    go_enter Try.func62, Try.ntmps62
    go_wp2
    go_ret
    exact ⟨rfl, Bel.rf.al _⟩
  · rw [rin_no h]
    have h' : ¬ (0 ≤ n ∧ n ≤ 2305843009213693952 ∧ 1 ≤ d ∧ d ≤ 1152921504606846976) := h
    rcases Classical.em (0 ≤ n) with h1 | h1
    · have b1 : decide (0 ≤ n) = true := by simpa using h1
      rcases Classical.em (n ≤ 2305843009213693952) with h2 | h2
      · have b2 : decide (n ≤ 2305843009213693952) = true := by simpa using h2
        rcases Classical.em (1 ≤ d) with h3 | h3
        · have b3 : decide (1 ≤ d) = true := by simpa using h3
          have b4 : decide (d ≤ 1152921504606846976) = false := by simp; omega
          clear h h'
          go_enter Try.func62, Try.ntmps62
          go_wp2
          go_ret
          exact ⟨rfl, Bel.rf.al _⟩
        · have b3 : decide (1 ≤ d) = false := by simpa using h3
          clear h h'
          go_enter Try.func62, Try.ntmps62
          go_wp2
          go_ret
          exact ⟨rfl, Bel.rf.al _⟩
      · have b2 : decide (n ≤ 2305843009213693952) = false := by simpa using h2
        clear h h'
        go_enter Try.func62, Try.ntmps62
        go_wp2
        go_ret
        exact ⟨rfl, Bel.rf.al _⟩
    · have b1 : decide (0 ≤ n) = false := by simpa using h1
      clear h h'
      go_enter Try.func62, Try.ntmps62
      go_wp2
      go_ret
      exact ⟨rfl, Bel.rf.al _⟩
theorem make_bad (n d : Int) (w : World) (h : n < 0 ∨ d < 1) :
    Calls Try.prog 54 #[.int .i64 n, .int .i64 d] w fun e w' => e = .returned (.tuple #[.agg #[.int .i64 0, .int .i64 0], .int .i64 1]) ∧ Bel w w' := by
  rcases Classical.em (n < 0) with h1 | h1
  · have b1 : decide (n < 0) = true := by simpa using h1
    clear h
    go_enter Try.func54, Try.ntmps54
    go_wp2
    exact bodyPost_ret (v := .tuple #[.agg #[.int .i64 0, .int .i64 0], .int .i64 1]) (by simp [results, Try.results54, go_sem]) rfl ⟨rfl, Bel.rf.al _⟩
  · have b1 : decide (n < 0) = false := by simpa using h1
    have b2 : decide (d < 1) = true := by simp; omega
    clear h
    go_enter Try.func54, Try.ntmps54
    go_wp2
    exact bodyPost_ret (v := .tuple #[.agg #[.int .i64 0, .int .i64 0], .int .i64 1]) (by simp [results, Try.results54, go_sem]) rfl ⟨rfl, Bel.rf.al _⟩
set_option maxHeartbeats 400000 in
theorem make_in (n d : Int) (w : World) (h1 : 0 ≤ n) (h2 : 1 ≤ d) (h3 : rin (n / gd n d) (d / gd n d) = true) (q1 : n ≤ 9223372036854775807) (q2 : d ≤ 9223372036854775807) :
    Calls Try.prog 54 #[.int .i64 n, .int .i64 d] w fun e w' => e = .returned (.tuple #[.agg #[.int .i64 (n / gd n d), .int .i64 (d / gd n d)], .int .i64 0]) ∧ Bel w w' := by
  have b1 : decide (n < 0) = false := by simpa using h1
  have b2 : decide (d < 1) = false := by simpa using h2
  have g1 := gd_pos (a := n) (b := d) (by omega)
  have g2 := gd_le_right (a := n) (b := d) (by omega)
  have g3 : gd n d ≠ 0 := by omega
  have e1 : 0 ≤ n / gd n d := Int.ediv_nonneg h1 (by omega)
  have e2 : 0 ≤ d / gd n d := Int.ediv_nonneg (by omega) (by omega)
  have e3 : n / gd n d ≤ n := Int.ediv_le_self _ h1
  have e4 : d / gd n d ≤ d := Int.ediv_le_self _ (by omega)
  go_enter Try.func54, Try.ntmps54
  go_wp2_with (first | (go_at_call 61; refine (divisor_any _ _ h1 (by omega) _).mono ?_; rintro e w2 ⟨rfl, m, rfl⟩))
  go_region
  go_wp2_with (first | (go_at_call 62; refine (inRange_any _ _ _).mono ?_; rintro e w3 ⟨rfl, hb⟩; obtain ⟨hc, hf⟩ := hb.cells; have hsz := hb.size; have B0 : Bk w3 w.heap.size 39 #[.int .i64 0, .int .i64 0] := (((Bk.nw _ _ _).drwN _).al _).bel hb; have hz0 := B0.lt; have k0 : w3.cell? ⟨w.heap.size, 0, none⟩ = some (.int .i64 0) := B0.cell 0; have k1 : w3.cell? ⟨w.heap.size, 1, none⟩ = some (.int .i64 0) := B0.cell 1))
  exact bodyPost_ret (v := .tuple #[.agg #[.int .i64 (n / gd n d), .int .i64 (d / gd n d)], .int .i64 0]) (by simp [results, Try.results54, go_sem, k0, k1]) rfl ⟨rfl, (by repeat (first | exact Bel.rf | (with_reducible refine Bel.st ?_ (by simp) _) | (with_reducible refine Bel.drwN ?_ _) | (with_reducible refine Bel.drw ?_) | (with_reducible refine Bel.al ?_ _) | refine Bel.tr ?_ (by assumption)))⟩
end Go.Proofs.Ytkonknkoggfeaaa.Ra
