/- slices.BinarySearch. -/
import Derived.Test.YtgdhgeongdenpaaWd7
namespace Go.Proofs.Ytgdhgeongdenpaa.Wd
open Go.ChangeShapes Go.WideShapes Go.RowKit Wo Sr Wi Ms
set_option linter.unusedVariables false
set_option linter.unusedSimpArgs false
theorem nanc_ok (x : Int) (w : World) : Calls Try.prog 98 #[.int .i64 x] w fun e w' => e = .returned (.bool false) ∧ w = w' := by
  have hx := ne_self x
  go_enter Try.func98, Try.ntmps98
  go_wp2
  go_ret
  exact ⟨rfl, rfl⟩
theorem nans_ok (x : Int) (w : World) : Calls Try.prog 83 #[.int .i64 x] w fun e w' => e = .returned (.bool false) ∧ w = w' := by
  have hx := ne_self x
  go_enter Try.func83, Try.ntmps83
  go_wp2
  go_ret
  exact ⟨rfl, rfl⟩
theorem cless_ok (x y : Int) (w : World) : Calls Try.prog 82 #[.int .i64 x, .int .i64 y] w fun e w' => e = .returned (.bool (decide (x < y))) ∧ w = w' := by
  have HN : Hid (∀ W, Calls Try.prog 98 #[.int .i64 x] W fun e w' => e = .returned (.bool false) ∧ W = w') := nanc_ok x
  go_enter Try.func82, Try.ntmps82
  go_wp2_with (go_at_call 98; refine (HN.out _).mono ?_; rintro e w' ⟨rfl, rfl⟩)
  go_ret
  exact ⟨rfl, rfl⟩
def SomeBs (C : List Int) (n : Nat) (x : Int) (w : World) (e : Ending) (w' : World) : Prop := ∃ (q : Nat) (f : Bool), e = .returned (.tuple #[.int .i64 (q : Int), .bool f]) ∧ q ≤ n ∧ (∀ j, j < q → C.getD j 0 < x) ∧ (∀ j, q ≤ j → j < n → x ≤ C.getD j 0) ∧ f = decide (q < n ∧ C.getD q 0 = x) ∧ Bel w w'
set_option maxHeartbeats 8000000 in
set_option maxRecDepth 100000 in
theorem bsearch_ok (A : Option Addr) (c n : Nat) (C : List Int) (x : Int) (hn : n ≤ 15) (hasc : ∀ {i j : Nat}, i < j → j < n → C.getD i 0 < C.getD j 0) (w : World) (hz : Zi w A n C) :
    Calls Try.prog 43 #[.slice A n c, .int .i64 x] w (SomeBs C n x w) := by
  have HZ := Lib.hid hz
  have HASC : Hid (∀ i j : Nat, i < j → j < n → C.getD i 0 < C.getD j 0) := fun i j => hasc
  have ni : (n : Int) ≤ 15 := by omega
  have HLE : Hid (∀ (a b : Int) (W : World), Calls Try.prog 82 #[.int .i64 a, .int .i64 b] W fun e w' => e = .returned (.bool (decide (a < b))) ∧ W = w') := cless_ok
  have HNN : Hid (∀ (a : Int) (W : World), Calls Try.prog 83 #[.int .i64 a] W fun e w' => e = .returned (.bool false) ∧ W = w') := nans_ok
  clear hz hasc
  go_enter Try.func43, Try.ntmps43
  go_wp2
  go_loopw [7, 8] (fun s7 s8 wr => ∃ (i j : Nat) (V : World), V = wr ∧ i ≤ j ∧ j ≤ n ∧ s7 = .int .i64 (i : Int) ∧ s8 = .int .i64 (j : Int) ∧ (∀ t, t < i → C.getD t 0 < x) ∧ (∀ t, j ≤ t → t < n → x ≤ C.getD t 0) ∧ Bel w wr) (fun s7 s8 _ => (intOf s8).toNat - (intOf s7).toNat)
  case atStart => exact ⟨0, n, _, rfl, by omega, by omega, rfl, rfl, fun t ht => by omega, fun t h1 h2 => by omega, (by repeat (first | exact Bel.rf | (with_reducible refine Bel.drwN ?_ _) | (with_reducible refine Bel.drw ?_) | (with_reducible refine Bel.al ?_ _)))⟩
  case round =>
    obtain ⟨i, j, wr, hwr, hij, hjn, rfl, rfl, hlo, hhi, hb⟩ := hrel
    subst hwr
    have HB := Lib.hid hb
    have HLO := Lib.hid hlo
    have HHI := Lib.hid hhi
    clear hb hlo hhi
    rcases Nat.lt_or_ge i j with hlt | hge
    · obtain ⟨h, hh⟩ : ∃ h, (i + j) / 2 = h := ⟨_, rfl⟩
      have hi : i ≤ h := by omega
      have hj : h < j := by omega
      obtain ⟨ad, e, _, hc⟩ := (HZ.out.bel HB.out).2 (by omega)
      subst e
      have c1 := hc h (by omega)
      obtain ⟨y, hy⟩ : ∃ y, C.getD h 0 = y := ⟨_, rfl⟩
      rw [hy] at c1
      have HY := Lib.hid hy
      have ii : (i : Int) < (j : Int) := by omega
      have hni : (h : Int) < (n : Int) := by omega
      have h0 : (0 : Int) ≤ (h : Int) := by omega
      have sb : (0 : Int) ≤ (i : Int) + (j : Int) ∧ (i : Int) + (j : Int) < 18446744073709551616 := by omega
      have su : IntKind.u64.wrap ((i : Int) + (j : Int)) = (i : Int) + (j : Int) := by
        unfold IntKind.wrap
        simp [IntKind.bits, IntKind.signed]
        omega
      clear sb
      have sh : ((i : Int) + (j : Int)) / 2 = (h : Int) := by omega
      have sh3 : ((i : Int) + (j : Int)) / 2 ^ 1 = (h : Int) := by rw [show (2 : Int) ^ 1 = 2 from rfl]; exact sh
      have sw : IntKind.i64.wrap (h : Int) = (h : Int) := IntWalk.i64_in _ (by omega)
      clear hc hy hh
      rcases Int.lt_or_le y x with hyx | hyx
      · have dd : decide (y < x) = true := decide_eq_true hyx
        have HL2 : Hid (∀ t, t < h + 1 → C.getD t 0 < x) := fun t ht => by
          rcases Nat.lt_or_ge t h with k | k
          · have := HASC.out t h k (by omega); rw [HY.out] at this; omega
          · rw [show t = h by omega, HY.out]; exact hyx
        go_wp2_with (go_at_call 82; refine (HLE.out y x _).mono ?_; rintro e w' ⟨rfl, rfl⟩; rw [dd])
        go_roundw
        case rel => exact ⟨h + 1, j, _, rfl, by omega, by omega, by go_num, rfl, HL2.out, HHI.out, (by repeat (first | exact HB.out | (with_reducible refine Bel.drwN ?_ _) | (with_reducible refine Bel.drw ?_) | (with_reducible refine Bel.al ?_ _)))⟩
        case measure => simp [intOf]; omega
      · have dd : decide (y < x) = false := decide_eq_false (by omega)
        have HH2 : Hid (∀ t, h ≤ t → t < n → x ≤ C.getD t 0) := fun t h1 h2 => by
          rcases Nat.lt_or_ge h t with k | k
          · have := HASC.out h t k h2; rw [HY.out] at this; omega
          · rw [show t = h by omega, HY.out]; exact hyx
        go_wp2_with (go_at_call 82; refine (HLE.out y x _).mono ?_; rintro e w' ⟨rfl, rfl⟩; rw [dd])
        go_roundw
        case rel => exact ⟨i, h, _, rfl, by omega, by omega, rfl, rfl, HLO.out, HH2.out, (by repeat (first | exact HB.out | (with_reducible refine Bel.drwN ?_ _) | (with_reducible refine Bel.drw ?_) | (with_reducible refine Bel.al ?_ _)))⟩
        case measure => simp [intOf]; omega
    · obtain rfl : i = j := by omega
      rcases Nat.lt_or_ge i n with hin | hin
      · obtain ⟨ad, e, _, hc⟩ := (HZ.out.bel HB.out).2 (by omega)
        subst e
        have c1 := hc i hin
        obtain ⟨y, hy⟩ : ∃ y, C.getD i 0 = y := ⟨_, rfl⟩
        rw [hy] at c1
        have HY := Lib.hid hy
        have ii : (i : Int) < (n : Int) := by omega
        have i0 : (0 : Int) ≤ (i : Int) := by omega
        clear hc hy
        by_cases hyx : y = x
        · subst hyx
          have HF : Hid (true = decide (i < n ∧ C.getD i 0 = y)) := (decide_eq_true (And.intro hin HY.out)).symm
          go_wp2
          go_ret2
          exact ⟨i, true, rfl, by omega, HLO.out, HHI.out, HF.out, (by repeat (first | exact HB.out | (with_reducible refine Bel.drwN ?_ _) | (with_reducible refine Bel.drw ?_) | (with_reducible refine Bel.al ?_ _)))⟩
        · have hne : (y == x) = false := by simp [hyx]
          have HF : Hid (false = decide (i < n ∧ C.getD i 0 = x)) := (decide_eq_false (fun h => hyx (HY.out.symm.trans h.2))).symm
          go_wp2_with (go_at_call 83; refine (HNN.out _ _).mono ?_; rintro e w' ⟨rfl, rfl⟩)
          go_ret2
          exact ⟨i, false, rfl, by omega, HLO.out, HHI.out, HF.out, (by repeat (first | exact HB.out | (with_reducible refine Bel.drwN ?_ _) | (with_reducible refine Bel.drw ?_) | (with_reducible refine Bel.al ?_ _)))⟩
      · have nn : ¬ (i : Int) < (n : Int) := by omega
        have HF : Hid (false = decide (i < n ∧ C.getD i 0 = x)) := (decide_eq_false (fun h => by omega)).symm
        go_wp2
        go_ret2
        exact ⟨i, false, rfl, by omega, HLO.out, HHI.out, HF.out, (by repeat (first | exact HB.out | (with_reducible refine Bel.drwN ?_ _) | (with_reducible refine Bel.drw ?_) | (with_reducible refine Bel.al ?_ _)))⟩
end Go.Proofs.Ytgdhgeongdenpaa.Wd
