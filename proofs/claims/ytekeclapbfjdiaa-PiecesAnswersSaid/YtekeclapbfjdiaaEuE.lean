/- euclid.Within of two windows, any limit. -/
import Derived.Test.YtekeclapbfjdiaaEuD
import Derived.Test.YtekeclapbfjdiaaEuB
namespace Go.Proofs.Ytekeclapbfjdiaa.Say
open Go.ChangeShapes Go.WideShapes Go.RowKit Wo Sr Wi Ra Eu
set_option linter.unusedVariables false
theorem sam_all {L : List Int} (h : Sam L) : allS L = true := by
  unfold allS
  rw [List.all_eq_true]
  intro x hx
  obtain ⟨a, b⟩ := h x hx
  unfold isS
  rw [decide_eq_true a, decide_eq_true b]; rfl
theorem all_sam {L : List Int} (h : allS L = true) : Sam L := by
  unfold allS at h
  rw [List.all_eq_true] at h
  intro x hx
  have := h x hx
  unfold isS at this
  rw [Bool.and_eq_true] at this
  exact ⟨of_decide_eq_true this.1, of_decide_eq_true this.2⟩
theorem two_yes {n m : Nat} {L M : List Int} {b : Nat} (h : two n m L M b = 0) : lenOk n ∧ lenOk m ∧ Sam L ∧ Sam M ∧ n ≤ m + b ∧ m ≤ n + b := by
  unfold two at h
  split at h
  · rename_i h1
    split at h
    · rename_i h2
      split at h
      · rename_i h3
        exact ⟨h1.1, h1.2, all_sam h2.1, all_sam h2.2, h3.1, h3.2⟩
      · cases h
    · cases h
  · cases h
theorem two_zero {n : Nat} {L M : List Int} (hn : lenOk n) (hs : Sam L) (ht : Sam M) : two n n L M 0 = 0 := by
  unfold two
  rw [if_pos ⟨hn, hn⟩, if_pos ⟨sam_all hs, sam_all ht⟩, if_pos ⟨by omega, by omega⟩]
set_option maxHeartbeats 2000000 in
theorem within_ok (A A' : Option Addr) (c c' n : Nat) (L M : List Int) (hn : lenOk n) (hs : Sam L) (ht : Sam M) (l : Int) (w : World) (h1 : Zi w A n L) (h2 : Zi w A' n M) :
    Calls Try.prog 15 #[.slice A n c, .slice A' n c', .int .i64 l] w fun e w' => e = .returned (if su sq (df L M) ≤ l then .tuple #[.int .i64 (su sq (df L M)), .bool true] else .tuple #[.int .i64 0, .bool false]) ∧ Bel w w' := by
  have hn3 : n ≤ 100000000 := by have := hn.2; omega
  have HW := Lib.hid (windows_any A A' c c' n n L M 0 (by omega) hn3 hn3 w h1 h2)
  rw [two_zero hn hs ht] at HW
  have HQ : Hid (∀ W, Bel w W → _) := fun W hW => squares_lim A A' c c' n L M hn.2 hs ht l W (h1.bel hW) (h2.bel hW)
  obtain ⟨T, hT⟩ : ∃ T, su sq (df L M) = T := ⟨_, rfl⟩
  rw [hT] at HQ ⊢
  clear h1 h2 hT hs ht
  obtain ⟨R, hR⟩ : ∃ R : Value, (if T ≤ l then Value.tuple #[.int .i64 T, .bool true] else .tuple #[.int .i64 0, .bool false]) = R := ⟨_, rfl⟩
  rw [hR]
  have HR := Lib.hid hR
  clear hR
  go_enter Try.func15, Try.ntmps15
  go_wp2_with fail
  go_at_call 39
  refine HW.out.mono ?_
  rintro e w1 ⟨rfl, hb1⟩
  go_wp2_with fail
  go_at_call 40
  refine (HQ.out _ hb1).mono ?_
  rintro e w2 ⟨⟨r, rfl, hr1, hr2⟩, hb2⟩
  rcases Int.lt_or_le l r with g | g
  · have e1 : decide (l < r) = true := decide_eq_true g
    have g2 := hr2 g
    have HR2 : Hid (R = .tuple #[.int .i64 0, .bool false]) := by show R = _; rw [← HR.out, if_neg (by omega)]
    clear hr1 hr2
    go_wp2
    go_ret2
    exact ⟨by rw [HR2.out]; rfl, hb1.tr hb2⟩
  · have g3 : ¬ l < r := by omega
    have e1 : decide (l < r) = false := decide_eq_false g3
    obtain rfl := hr1 g
    have HR2 : Hid (R = .tuple #[.int .i64 r, .bool true]) := by show R = _; rw [← HR.out, if_pos g]
    clear hr1 hr2
    go_wp2
    go_ret2
    exact ⟨by rw [HR2.out]; rfl, hb1.tr hb2⟩
end Go.Proofs.Ytekeclapbfjdiaa.Say
