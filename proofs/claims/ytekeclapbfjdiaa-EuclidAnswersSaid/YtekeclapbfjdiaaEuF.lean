/- ref12.Within of two windows; euclid's Distance and Within return what the reference's do, for any lists. -/
import Derived.Test.YtekeclapbfjdiaaEuE
import Derived.Test.YtekeclapbfjdiaaRef12
namespace Go.Proofs.Ytekeclapbfjdiaa.Say
open Go.ChangeShapes Go.WideShapes Go.RowKit Wo Sr Wi Ra Eu R12
set_option linter.unusedVariables false
set_option maxHeartbeats 2000000 in
theorem rwithin_ok (A A' : Option Addr) (c c' n : Nat) (L M : List Int) (hn : lenOk n) (hs : Sam L) (ht : Sam M) (l : Int) (w : World) (h1 : Zi w A n L) (h2 : Zi w A' n M) :
    Calls Try.prog 16 #[.slice A n c, .slice A' n c', .int .i64 l] w fun e w' => e = .returned (if su sq (df L M) ≤ l then .tuple #[.int .i64 (su sq (df L M)), .bool true] else .tuple #[.int .i64 0, .bool false]) ∧ Bel w w' := by
  have HW := Lib.hid (rdistance_ok A A' c c' n L M hn.1 hn.2 hs ht w h1 h2)
  obtain ⟨T, hT⟩ : ∃ T, su sq (df L M) = T := ⟨_, rfl⟩
  rw [hT] at HW ⊢
  clear h1 h2 hT hs ht
  rcases Int.lt_or_le l T with g | g
  · have e1 : decide (l < T) = true := decide_eq_true g
    rw [if_neg (show ¬ T ≤ l by omega)]
    go_enter Try.func16, Try.ntmps16
    go_wp2_with fail
    go_at_call 12
    refine HW.out.mono ?_
    rintro e w1 ⟨rfl, hb1⟩
    go_wp2
    go_ret2
    exact ⟨rfl, hb1⟩
  · have g3 : ¬ l < T := by omega
    have e1 : decide (l < T) = false := decide_eq_false g3
    rw [if_pos g]
    go_enter Try.func16, Try.ntmps16
    go_wp2_with fail
    go_at_call 12
    refine HW.out.mono ?_
    rintro e w1 ⟨rfl, hb1⟩
    go_wp2
    go_ret2
    exact ⟨rfl, hb1⟩
/-- euclid.Distance and the reference's, of any lists -/
theorem both_dist (A A' : Option Addr) (c c' n m : Nat) (L M : List Int) (hn : n ≤ 100000000) (hm : m ≤ 100000000) : ∃ D E : Int,
    (∀ w, Zi w A n L → Zi w A' m M → Calls Try.prog 11 #[.slice A n c, .slice A' m c'] w fun e w' => e = .returned (.tuple #[.int .i64 D, .int .i64 E]) ∧ Bel w w') ∧
    (∀ w, Zi w A n L → Zi w A' m M → Calls Try.prog 12 #[.slice A n c, .slice A' m c'] w fun e w' => e = .returned (.tuple #[.int .i64 D, .int .i64 E]) ∧ Bel w w') := by
  rcases Classical.em (two n m L M 0 = 0) with h | h
  · obtain ⟨h1, h2, h3, h4, h5, h6⟩ := two_yes h
    obtain rfl : n = m := by omega
    exact ⟨_, 0, fun w k1 k2 => distance_ok A A' c c' n L M h1.1 h1.2 h3 h4 w k1 k2, fun w k1 k2 => rdistance_ok A A' c c' n L M h1.1 h1.2 h3 h4 w k1 k2⟩
  · exact ⟨0, _, fun w k1 k2 => dist_bad A A' c c' n m L M _ rfl h hn hm w k1 k2, fun w k1 k2 => rdist_bad A A' c c' n m L M _ rfl h hn hm w k1 k2⟩
/-- euclid.Within and the reference's, of any lists -/
theorem both_within (A A' : Option Addr) (c c' n m : Nat) (L M : List Int) (hn : n ≤ 100000000) (hm : m ≤ 100000000) (l : Int) : ∃ (D : Int) (b : Bool),
    (∀ w, Zi w A n L → Zi w A' m M → Calls Try.prog 15 #[.slice A n c, .slice A' m c', .int .i64 l] w fun e w' => e = .returned (.tuple #[.int .i64 D, .bool b]) ∧ Bel w w') ∧
    (∀ w, Zi w A n L → Zi w A' m M → Calls Try.prog 16 #[.slice A n c, .slice A' m c', .int .i64 l] w fun e w' => e = .returned (.tuple #[.int .i64 D, .bool b]) ∧ Bel w w') := by
  rcases Classical.em (two n m L M 0 = 0) with h | h
  · obtain ⟨h1, h2, h3, h4, h5, h6⟩ := two_yes h
    obtain rfl : n = m := by omega
    rcases Classical.em (su sq (df L M) ≤ l) with g | g
    · exact ⟨_, true, fun w k1 k2 => by have := within_ok A A' c c' n L M h1 h3 h4 l w k1 k2; rwa [if_pos g] at this, fun w k1 k2 => by have := rwithin_ok A A' c c' n L M h1 h3 h4 l w k1 k2; rwa [if_pos g] at this⟩
    · exact ⟨0, false, fun w k1 k2 => by have := within_ok A A' c c' n L M h1 h3 h4 l w k1 k2; rwa [if_neg g] at this, fun w k1 k2 => by have := rwithin_ok A A' c c' n L M h1 h3 h4 l w k1 k2; rwa [if_neg g] at this⟩
  · exact ⟨0, false, fun w k1 k2 => within_bad A A' c c' n m L M _ rfl h hn hm l w k1 k2, fun w k1 k2 => rwithin_bad A A' c c' n m L M _ rfl h hn hm l w k1 k2⟩
end Go.Proofs.Ytekeclapbfjdiaa.Say
