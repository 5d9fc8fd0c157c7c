/- The contracts of the reference of the layers 4 and 12: samples, windows. -/
import Derived.Test.YtkonknkoggfeaaaEucMath
import Derived.Test.YtkonknkoggfeaaaZi
import Derived.BigQuiet
namespace Go.Proofs.Ytkonknkoggfeaaa.R12
open Go.ChangeShapes Go.WideShapes Go.RowKit Wo Sr Wi
set_option linter.unusedVariables false
theorem rsample_ok (n : Int) (h0 : -1000 ≤ n) (h1 : n ≤ 1000) (w : World) : Calls Try.prog 59 #[.int .i64 n] w fun e w' => e = .returned (.bool true) ∧ w = w' := by
  go_enter Try.func59, Try.ntmps59
  go_wp2
  go_ret
  exact ⟨rfl, rfl⟩
set_option maxHeartbeats 4000000 in
theorem rsamples_ok (A : Option Addr) (c n : Nat) (L : List Int) (hn : n ≤ 1000000) (hs : Sam L) (w : World) (h : Zi w A n L) :
    Calls Try.prog 46 #[.slice A n c] w fun e w' => e = .returned (.int .i64 0) ∧ Bel w w' := by
  have H1 := Lib.hid h
  have HS := Lib.hid hs
  have ni : (n : Int) ≤ 1000000 := by omega
  clear h hs
  go_enter Try.func46, Try.ntmps46
  go_wp2
  go_loopw [6] (fun s6 wr => ∃ (k : Nat) (V : World), V = wr ∧ k ≤ n ∧ s6 = .int .i64 (k : Int) ∧ Bel w wr) (fun s6 _ => n - (intOf s6).toNat)
  case atStart => exact ⟨0, _, rfl, by omega, rfl, Bel.rf⟩
  case round =>
    obtain ⟨k, wr, hwr, hk, rfl, hb⟩ := hrel
    subst hwr
    have HB := Lib.hid hb
    rcases Nat.lt_or_ge k n with hlt | hge
    · obtain ⟨ad, rfl, hab, hac⟩ := (H1.out.bel hb).2 (by omega)
      have c1 := hac k hlt
      have hx := HS.out.at k
      obtain ⟨x, hxe⟩ : ∃ x, L.getD k 0 = x := ⟨_, rfl⟩
      rw [hxe] at c1 hx
      obtain ⟨x0, x1⟩ := hx
      have ki : (k : Int) < (n : Int) := by omega
      clear hb hac hab hxe
      go_wp2_with (go_at_call 59; refine (rsample_ok x x0 x1 _).mono ?_; rintro e w' ⟨rfl, rfl⟩)
      go_roundw
      case rel => exact ⟨k + 1, _, rfl, by omega, by go_num, by first | exact HB.out | exact HB.out.drwN _ | exact HB.out.drw⟩
      case measure => simp [intOf]; omega
    · obtain rfl : k = n := by omega
      clear hb
      go_wp2
      go_ret
      exact ⟨rfl, HB.out⟩
set_option maxHeartbeats 4000000 in
theorem two_ok (A A' : Option Addr) (c c' n : Nat) (L M : List Int) (n1 : 2 ≤ n) (n2 : n ≤ 32) (hs : Sam L) (ht : Sam M) (w : World) (h1 : Zi w A n L) (h2 : Zi w A' n M) :
    Calls Try.prog 48 #[.slice A n c, .slice A' n c', .int .i64 0] w fun e w' => e = .returned (.int .i64 0) ∧ Bel w w' := by
  have i1 : 2 ≤ (n : Int) := by omega
  have i2 : (n : Int) ≤ 32 := by omega
  have S1 : Hid (∀ W, Bel w W → _) := fun W hW => rsamples_ok A c n L (by omega) hs W (h1.bel hW)
  have S2 : Hid (∀ W, Bel w W → _) := fun W hW => rsamples_ok A' c' n M (by omega) ht W (h2.bel hW)
  clear h1 h2 hs ht
  go_enter Try.func48, Try.ntmps48
  go_wp2_with fail
  go_at_call 46
  refine (S1.out _ Bel.rf).mono ?_
  rintro e w1 ⟨rfl, hb1⟩
  go_wp2_with fail
  go_at_call 46
  refine (S2.out _ hb1).mono ?_
  rintro e w2 ⟨rfl, hb2⟩
  go_wp2
  go_ret
  exact ⟨rfl, hb1.tr hb2⟩
end Go.Proofs.Ytkonknkoggfeaaa.R12
