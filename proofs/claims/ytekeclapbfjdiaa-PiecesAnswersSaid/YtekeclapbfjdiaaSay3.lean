/- limits.Window and the reference's Window: for any list. (mksay3.py) -/
import Derived.Test.YtekeclapbfjdiaaSay2
namespace Go.Proofs.Ytekeclapbfjdiaa.Say
open Go.ChangeShapes Go.WideShapes Go.RowKit Wo Sr Wi
set_option linter.unusedVariables false
/-- the error of a list that is to be a window -/
def one (n : Nat) (L : List Int) : Int := if lenOk n then (if allS L = true then 0 else 12) else 8
set_option maxHeartbeats 4000000 in
theorem window_any (A : Option Addr) (c n : Nat) (L : List Int) (hn : n ≤ 100000000) (w : World) (h1 : Zi w A n L) :
    Calls Try.prog 45 #[.slice A n c] w fun e w' => e = .returned (.int .i64 (one n L)) ∧ Bel w w' := by
  have HS1 := Lib.hid (samples_any A c n L hn w h1)
  clear h1
  rcases Classical.em (lenOk n) with hnl | hnl
  · have n1 : 2 ≤ (n : Int) := by have := hnl.1; omega
    have n2 : (n : Int) ≤ 32 := by have := hnl.2; omega
    have n3 : decide ((n : Int) < 2) = false := decide_eq_false (by omega)
    have n4 : decide (32 < (n : Int)) = false := decide_eq_false (by omega)
    have n5 : ¬ (n : Int) < 2 := by omega
    have n6 : ¬ 32 < (n : Int) := by omega
    have HN : Hid (∀ W, Calls Try.prog 57 #[.int .i64 (n : Int)] W fun e w' => e = .returned (.bool true) ∧ W = w') := len_yes hnl
    rcases Classical.em (allS L = true) with hal | hal
    · have HT : Hid (Calls Try.prog 46 #[.slice A n c] w fun e w' => e = .returned (.bool true) ∧ Bel w w') := by have := HS1.out; rwa [show allS L = true from hal] at this
      have HR : one n L = 0 := by unfold one; rw [if_pos hnl, if_pos hal]
      rw [HR]
      clear HS1 HR
      go_enter Try.func45, Try.ntmps45
      go_wp2_with fail
      go_at_call 57
      refine (HN.out _).mono ?_
      rintro e w0 ⟨rfl, rfl⟩
      go_wp2_with fail
      go_at_call 46
      refine HT.out.mono ?_
      rintro e w1 ⟨rfl, hb1⟩
      go_wp2
      go_ret
      exact ⟨rfl, hb1⟩
    · have HT : Hid (Calls Try.prog 46 #[.slice A n c] w fun e w' => e = .returned (.bool false) ∧ Bel w w') := by have := HS1.out; rwa [show allS L = false from Bool.eq_false_iff.2 hal] at this
      have HR : one n L = 12 := by unfold one; rw [if_pos hnl, if_neg hal]
      rw [HR]
      clear HS1 HR
      go_enter Try.func45, Try.ntmps45
      go_wp2_with fail
      go_at_call 57
      refine (HN.out _).mono ?_
      rintro e w0 ⟨rfl, rfl⟩
      go_wp2_with fail
      go_at_call 46
      refine HT.out.mono ?_
      rintro e w1 ⟨rfl, hb1⟩
      go_wp2
      go_ret
      exact ⟨rfl, hb1⟩
  · have HR : one n L = 8 := by unfold one; rw [if_neg hnl]
    rw [HR]
    clear HR HS1
    have HN : Hid (∀ W, Calls Try.prog 57 #[.int .i64 (n : Int)] W fun e w' => e = .returned (.bool false) ∧ W = w') := len_no hn hnl
    go_enter Try.func45, Try.ntmps45
    go_wp2_with fail
    go_at_call 57
    refine (HN.out _).mono ?_
    rintro e w0 ⟨rfl, rfl⟩
    go_wp2
    go_ret
    exact ⟨rfl, Bel.rf⟩
set_option maxHeartbeats 4000000 in
theorem rwindow_any (A : Option Addr) (c n : Nat) (L : List Int) (hn : n ≤ 100000000) (w : World) (h1 : Zi w A n L) :
    Calls Try.prog 50 #[.slice A n c] w fun e w' => e = .returned (.int .i64 (one n L)) ∧ Bel w w' := by
  have HS1 := Lib.hid (rsamples_any A c n L hn w h1)
  clear h1
  rcases Classical.em (lenOk n) with hnl | hnl
  · have n1 : 2 ≤ (n : Int) := by have := hnl.1; omega
    have n2 : (n : Int) ≤ 32 := by have := hnl.2; omega
    have n3 : decide ((n : Int) < 2) = false := decide_eq_false (by omega)
    have n4 : decide (32 < (n : Int)) = false := decide_eq_false (by omega)
    have n5 : ¬ (n : Int) < 2 := by omega
    have n6 : ¬ 32 < (n : Int) := by omega
    have HN : Hid (∀ W, Calls Try.prog 57 #[.int .i64 (n : Int)] W fun e w' => e = .returned (.bool true) ∧ W = w') := len_yes hnl
    rcases Classical.em (allS L = true) with hal | hal
    · have HT : Hid (Calls Try.prog 60 #[.slice A n c] w fun e w' => e = .returned (.int .i64 0) ∧ Bel w w') := by have := HS1.out; rwa [if_pos (show allS L = true from hal)] at this
      have HR : one n L = 0 := by unfold one; rw [if_pos hnl, if_pos hal]
      rw [HR]
      clear HS1 HR
      go_enter Try.func50, Try.ntmps50
      go_wp2_with fail
      go_at_call 60
      refine HT.out.mono ?_
      rintro e w1 ⟨rfl, hb1⟩
      go_wp2
      go_ret
      exact ⟨rfl, hb1⟩
    · have HT : Hid (Calls Try.prog 60 #[.slice A n c] w fun e w' => e = .returned (.int .i64 12) ∧ Bel w w') := by have := HS1.out; rwa [if_neg (show ¬ allS L = true from hal)] at this
      have HR : one n L = 12 := by unfold one; rw [if_pos hnl, if_neg hal]
      rw [HR]
      clear HS1 HR
      go_enter Try.func50, Try.ntmps50
      go_wp2_with fail
      go_at_call 60
      refine HT.out.mono ?_
      rintro e w1 ⟨rfl, hb1⟩
      go_wp2
      go_ret
      exact ⟨rfl, hb1⟩
  · have HR : one n L = 8 := by unfold one; rw [if_neg hnl]
    rw [HR]
    clear HR HS1
    rcases (by unfold lenOk at hnl; omega : n < 2 ∨ (2 ≤ n ∧ 32 < n)) with g | ⟨g1, g2⟩
    · have p1 : (n : Int) < 2 := by omega
      have p2 : decide ((n : Int) < 2) = true := decide_eq_true p1
      go_enter Try.func50, Try.ntmps50
      go_wp2
      go_ret
      exact ⟨rfl, Bel.rf⟩
    · have p1 : ¬ (n : Int) < 2 := by omega
      have p2 : decide ((n : Int) < 2) = false := decide_eq_false p1
      have p3 : 32 < (n : Int) := by omega
      have p4 : decide (32 < (n : Int)) = true := decide_eq_true p3
      go_enter Try.func50, Try.ntmps50
      go_wp2
      go_ret
      exact ⟨rfl, Bel.rf⟩
end Go.Proofs.Ytekeclapbfjdiaa.Say
