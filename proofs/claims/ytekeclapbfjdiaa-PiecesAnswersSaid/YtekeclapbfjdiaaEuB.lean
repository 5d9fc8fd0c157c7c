/- euclid's and ref12's Distance and Within of lists that are refused. -/
import Derived.Test.YtekeclapbfjdiaaSay3
namespace Go.Proofs.Ytekeclapbfjdiaa.Say
open Go.ChangeShapes Go.WideShapes Go.RowKit Wo Sr Wi
set_option linter.unusedVariables false
set_option maxHeartbeats 2000000 in
theorem dist_bad (A A' : Option Addr) (c c' n m : Nat) (L M : List Int) (E : Int) (hE : two n m L M 0 = E) (h0 : E ≠ 0) (hn : n ≤ 100000000) (hm : m ≤ 100000000) (w : World) (h1 : Zi w A n L) (h2 : Zi w A' m M) :
    Calls Try.prog 11 #[.slice A n c, .slice A' m c'] w fun e w' => e = .returned (.tuple #[.int .i64 0, .int .i64 E]) ∧ Bel w w' := by
  have HW := Lib.hid (windows_any A A' c c' n m L M 0 (by omega) hn hm w h1 h2)
  rw [hE] at HW
  have e0 : (E == 0) = false := by rw [beq_eq_false_iff_ne]; exact h0
  clear hE h1 h2
  go_enter Try.func11, Try.ntmps11
  go_wp2_with fail
  go_at_call 39
  refine HW.out.mono ?_
  rintro e w1 ⟨rfl, hb1⟩
  go_wp2
  go_ret2
  exact ⟨rfl, hb1⟩
set_option maxHeartbeats 2000000 in
theorem rdist_bad (A A' : Option Addr) (c c' n m : Nat) (L M : List Int) (E : Int) (hE : two n m L M 0 = E) (h0 : E ≠ 0) (hn : n ≤ 100000000) (hm : m ≤ 100000000) (w : World) (h1 : Zi w A n L) (h2 : Zi w A' m M) :
    Calls Try.prog 12 #[.slice A n c, .slice A' m c'] w fun e w' => e = .returned (.tuple #[.int .i64 0, .int .i64 E]) ∧ Bel w w' := by
  have HW := Lib.hid (rtwo_any A A' c c' n m L M 0 (by omega) hn hm w h1 h2)
  rw [hE] at HW
  have e0 : (E == 0) = false := by rw [beq_eq_false_iff_ne]; exact h0
  clear hE h1 h2
  go_enter Try.func12, Try.ntmps12
  go_wp2_with fail
  go_at_call 41
  refine HW.out.mono ?_
  rintro e w1 ⟨rfl, hb1⟩
  go_wp2
  go_ret2
  exact ⟨rfl, hb1⟩
set_option maxHeartbeats 2000000 in
theorem within_bad (A A' : Option Addr) (c c' n m : Nat) (L M : List Int) (E : Int) (hE : two n m L M 0 = E) (h0 : E ≠ 0) (hn : n ≤ 100000000) (hm : m ≤ 100000000) (l : Int) (w : World) (h1 : Zi w A n L) (h2 : Zi w A' m M) :
    Calls Try.prog 15 #[.slice A n c, .slice A' m c', .int .i64 l] w fun e w' => e = .returned (.tuple #[.int .i64 0, .bool false]) ∧ Bel w w' := by
  have HW := Lib.hid (windows_any A A' c c' n m L M 0 (by omega) hn hm w h1 h2)
  rw [hE] at HW
  have e0 : (E == 0) = false := by rw [beq_eq_false_iff_ne]; exact h0
  clear hE h1 h2
  go_enter Try.func15, Try.ntmps15
  go_wp2_with fail
  go_at_call 39
  refine HW.out.mono ?_
  rintro e w1 ⟨rfl, hb1⟩
  go_wp2
  go_ret2
  exact ⟨rfl, hb1⟩
set_option maxHeartbeats 2000000 in
theorem rwithin_bad (A A' : Option Addr) (c c' n m : Nat) (L M : List Int) (E : Int) (hE : two n m L M 0 = E) (h0 : E ≠ 0) (hn : n ≤ 100000000) (hm : m ≤ 100000000) (l : Int) (w : World) (h1 : Zi w A n L) (h2 : Zi w A' m M) :
    Calls Try.prog 16 #[.slice A n c, .slice A' m c', .int .i64 l] w fun e w' => e = .returned (.tuple #[.int .i64 0, .bool false]) ∧ Bel w w' := by
  have HW := Lib.hid (rdist_bad A A' c c' n m L M E hE h0 hn hm w h1 h2)
  have e0 : (E == 0) = false := by rw [beq_eq_false_iff_ne]; exact h0
  clear hE h1 h2
  go_enter Try.func16, Try.ntmps16
  go_wp2_with fail
  go_at_call 12
  refine HW.out.mono ?_
  rintro e w1 ⟨rfl, hb1⟩
  go_wp2
  go_ret2
  exact ⟨rfl, hb1⟩
end Go.Proofs.Ytekeclapbfjdiaa.Say
