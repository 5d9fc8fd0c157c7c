/- resample: Valid of a valid grid, regular of readings that ascend, the value at a time, At. -/
import Derived.Test.YtdkibffbaamkkaaRes1
namespace Go.Proofs.Ytdkibffbaamkkaa.Rg
open Go.ChangeShapes Go.WideShapes Go.RowKit Wo Sr Wi Rm
set_option linter.unusedVariables false
/-- a valid grid -/
def Gv (f s c r q : Int) : Prop := 0 ≤ f ∧ f ≤ 1099511627776 ∧ 1 ≤ s ∧ s ≤ 1099511627776 ∧ 0 ≤ c ∧ c ≤ 2000 ∧ (0 < c → f + (c - 1) * s ≤ 1099511627776) ∧ 1 ≤ r ∧ r ≤ 3 ∧ 0 ≤ q ∧ q ≤ 1099511627776
def gv (f s c r q : Int) : Value := .agg #[.int .i64 f, .int .i64 s, .int .i64 c, .int .i64 r, .int .i64 q]
theorem mul_in {a b x y : Int} (a0 : -x ≤ a) (a1 : a ≤ x) (b0 : 0 ≤ b) (b1 : b ≤ y) (x0 : 0 ≤ x) : -(x * y) ≤ a * b ∧ a * b ≤ x * y := by
  have h1 := Int.mul_le_mul_of_nonneg_right a1 b0
  have h2 := Int.mul_le_mul_of_nonneg_right a0 b0
  have h3 := Int.mul_le_mul_of_nonneg_left b1 x0
  have h4 : -x * b = -(x * b) := by grind
  omega
set_option maxHeartbeats 4000000 in
theorem valid_ok (f s c r q : Int) (h : Gv f s c r q) (w : World) : Calls Try.prog 40 #[gv f s c r q] w fun e w' => e = .returned (.bool true) ∧ Bel w w' := by
  obtain ⟨f0, f1, s0, s1, c0, c1, h1, r0, r1, q0, q1⟩ := h
  unfold gv
  rcases Int.lt_or_le 0 c with hc | hc
  · have hp := mul_in (a := c - 1) (b := s) (x := 2000) (y := 1099511627776) (by omega) (by omega) (by omega) s1 (by decide)
    have hl := h1 hc
    obtain ⟨p, hpp⟩ : ∃ p, (c - 1) * s = p := ⟨_, rfl⟩
    rw [hpp] at hp hl
    have wp : wrap64 p = p := IntWalk.wrap64_in _ (by omega)
    have wp2 : IntKind.i64.wrap p = p := IntWalk.i64_in _ (by omega)
    clear h1
    rcases (show r = 1 ∨ r = 2 ∨ r = 3 by omega) with rfl | rfl | rfl
    all_goals
      go_enter Try.func40, Try.ntmps40
      go_wp2
      go_ret
      exact ⟨rfl, by first | exact Bel.rf.al _ | exact (Bel.rf.al _).drwN _⟩
  · obtain rfl : c = 0 := by omega
    clear h1
    rcases (show r = 1 ∨ r = 2 ∨ r = 3 by omega) with rfl | rfl | rfl
    all_goals
      go_enter Try.func40, Try.ntmps40
      go_wp2
      go_ret
      exact ⟨rfl, by first | exact Bel.rf.al _ | exact (Bel.rf.al _).drwN _⟩
theorem asc_vrs {l : List Rp} (h : Asc l) : Vrs l := fun i hi => h.1 i hi
set_option maxHeartbeats 4000000 in
theorem regular_ok (A : Option Addr) (c n : Nat) (l : List Rp) (hn : n ≤ 2000) (hs : Asc l) (w : World) (h : Zr w A n l) :
    Calls Try.prog 39 #[.slice A n c] w fun e w' => e = .returned (.int .i64 0) ∧ Bel w w' := by
  have H1 := Lib.hid h
  have HS := Lib.hid hs
  have ni : (n : Int) ≤ 2000 := by omega
  clear h hs
  go_enter Try.func39, Try.ntmps39
  go_wp2_with (go_at_call 30; refine (readings_ok A c n l hn (asc_vrs HS.out) _ H1.out).mono ?_; rintro e w1 ⟨rfl, hb1⟩)
  go_loopw [4] (fun s4 wr => ∃ (k : Nat) (V : World), V = wr ∧ 1 ≤ k ∧ k ≤ n + 1 ∧ s4 = .int .i64 (k : Int) ∧ Bel w wr) (fun s4 _ => n + 1 - (intOf s4).toNat)
  case atStart => exact ⟨1, _, rfl, by omega, by omega, rfl, by first | exact hb1 | exact hb1.drwN _⟩
  case round =>
    obtain ⟨k, wr, hwr, hk0, hk, rfl, hb⟩ := hrel
    subst hwr
    have HB := Lib.hid hb
    rcases Nat.lt_or_ge k n with hlt | hge
    · obtain ⟨g, rfl, hab, hac⟩ := (H1.out.bel hb).2 (by omega)
      obtain ⟨c1, c2⟩ := hac k hlt
      obtain ⟨p, hp⟩ : ∃ p, k - 1 = p := ⟨_, rfl⟩
      obtain ⟨c3, c4⟩ := hac p (by omega)
      have hx := HS.out.lt (show p < k by omega) (by rw [H1.out.1]; exact hlt)
      obtain ⟨x, hxe⟩ : ∃ x, tm l k = x := ⟨_, rfl⟩
      obtain ⟨y, hye⟩ : ∃ x, tm l p = x := ⟨_, rfl⟩
      rw [hxe] at c1 hx
      rw [hye] at c3 hx
      have ki : (k : Int) < (n : Int) := by omega
      have kp : (k : Int) - 1 = (p : Int) := by omega
      have pi : (p : Int) < (n : Int) := by omega
      have e1 : ¬ x ≤ y := by omega
      have e2 : decide (x ≤ y) = false := by simpa using hx
      clear hb hac hab hxe hye hx c2 c4 hb1
      go_wp2
      go_quiet (fail)
      go_wp2
      go_roundw
      case rel => exact ⟨k + 1, _, rfl, by omega, by omega, by go_num, by first | exact HB.out | exact HB.out.drwN _⟩
      case measure => simp [intOf]; omega
    · have ki : (n : Int) ≤ (k : Int) := by omega
      clear hb hb1
      go_wp2
      go_ret
      exact ⟨rfl, by first | exact HB.out | exact HB.out.drwN _⟩
end Go.Proofs.Ytdkibffbaamkkaa.Rg
