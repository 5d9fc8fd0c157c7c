/- limits.Windows and the reference's Two: for any lists. (mksay2.py) -/
import Derived.Test.YtekeclapbfjdiaaSay
namespace Go.Proofs.Ytekeclapbfjdiaa.Say
open Go.ChangeShapes Go.WideShapes Go.RowKit Wo Sr Wi
set_option linter.unusedVariables false
set_option linter.unusedSimpArgs false
instance (n : Nat) : Decidable (lenOk n) := inferInstanceAs (Decidable (2 ≤ n ∧ n ≤ 32))
/-- the first error of two lists whose lengths may differ by b -/
def two (n m : Nat) (L M : List Int) (b : Nat) : Int :=
  if lenOk n ∧ lenOk m then (if allS L = true ∧ allS M = true then (if n ≤ m + b ∧ m ≤ n + b then 0 else 8) else 12) else 8
theorem len_yes {n : Nat} (h : lenOk n) (w : World) : Calls Try.prog 57 #[.int .i64 (n : Int)] w fun e w' => e = .returned (.bool true) ∧ w = w' := by
  refine (length_any n (by have := h.2; omega) w).mono ?_
  rintro e w' ⟨⟨h1, _⟩ | ⟨_, h2⟩, hw⟩
  · exact ⟨h1, hw⟩
  · exact absurd h h2
theorem len_no {n : Nat} (hn : n ≤ 100000000) (h : ¬ lenOk n) (w : World) : Calls Try.prog 57 #[.int .i64 (n : Int)] w fun e w' => e = .returned (.bool false) ∧ w = w' := by
  refine (length_any n hn w).mono ?_
  rintro e w' ⟨⟨_, h1⟩ | ⟨h2, _⟩, hw⟩
  · exact absurd h1 h
  · exact ⟨h2, hw⟩
set_option maxHeartbeats 4000000 in
set_option maxRecDepth 100000 in
theorem windows_any (A A' : Option Addr) (c c' n m : Nat) (L M : List Int) (b : Nat) (hb : b ≤ 100000000) (hn : n ≤ 100000000) (hm : m ≤ 100000000) (w : World) (h1 : Zi w A n L) (h2 : Zi w A' m M) :
    Calls Try.prog 39 #[.slice A n c, .slice A' m c', .int .i64 (b : Int)] w fun e w' => e = .returned (.int .i64 (two n m L M b)) ∧ Bel w w' := by
  have HS1 : Hid (∀ W, Bel w W → Calls Try.prog 46 #[.slice A n c] W fun e w' => e = .returned (.bool (allS L)) ∧ Bel W w') := fun W hW => samples_any A c n L hn W (h1.bel hW)
  have HS2 : Hid (∀ W, Bel w W → Calls Try.prog 46 #[.slice A' m c'] W fun e w' => e = .returned (.bool (allS M)) ∧ Bel W w') := fun W hW => samples_any A' c' m M hm W (h2.bel hW)
  clear h1 h2
  have b0 : 0 ≤ (b : Int) := by omega
  rcases Classical.em (lenOk n) with hnl | hnl
  · have n1 : 2 ≤ (n : Int) := by have := hnl.1; omega
    have n2 : (n : Int) ≤ 32 := by have := hnl.2; omega
    have n3 : decide ((n : Int) < 2) = false := decide_eq_false (by omega)
    have n4 : decide (32 < (n : Int)) = false := decide_eq_false (by omega)
    have n5 : ¬ (n : Int) < 2 := by omega
    have n6 : ¬ 32 < (n : Int) := by omega
    have HN : Hid (∀ W, Calls Try.prog 57 #[.int .i64 (n : Int)] W fun e w' => e = .returned (.bool true) ∧ W = w') := len_yes hnl
    rcases Classical.em (lenOk m) with hml | hml
    · have m1 : 2 ≤ (m : Int) := by have := hml.1; omega
      have m2 : (m : Int) ≤ 32 := by have := hml.2; omega
      have m3 : decide ((m : Int) < 2) = false := decide_eq_false (by omega)
      have m4 : decide (32 < (m : Int)) = false := decide_eq_false (by omega)
      have m5 : ¬ (m : Int) < 2 := by omega
      have m6 : ¬ 32 < (m : Int) := by omega
      have HM : Hid (∀ W, Calls Try.prog 57 #[.int .i64 (m : Int)] W fun e w' => e = .returned (.bool true) ∧ W = w') := len_yes hml
      rcases Classical.em (allS L = true) with hal | hal
      · have HT1 : Hid (∀ W, Bel w W → Calls Try.prog 46 #[.slice A n c] W fun e w' => e = .returned (.bool true) ∧ Bel W w') := fun W hW => by have := HS1.out W hW; rwa [show allS L = true from hal] at this
        rcases Classical.em (allS M = true) with ham | ham
        · have HT2 : Hid (∀ W, Bel w W → Calls Try.prog 46 #[.slice A' m c'] W fun e w' => e = .returned (.bool true) ∧ Bel W w') := fun W hW => by have := HS2.out W hW; rwa [show allS M = true from ham] at this
          rcases (by omega : m + b < n ∨ n + b < m ∨ (n ≤ m + b ∧ m ≤ n + b)) with g | g | ⟨g1, g2⟩
          · have q1 : (b : Int) < (n : Int) - (m : Int) := by omega
            have q2 : decide ((b : Int) < (n : Int) - (m : Int)) = true := decide_eq_true q1
            have HR : two n m L M b = 8 := by unfold two; rw [if_pos ⟨hnl, hml⟩, if_pos ⟨hal, ham⟩, if_neg (by omega)]
            rw [HR]
            clear HS1 HS2 HR
            go_enter Try.func39, Try.ntmps39
            go_wp2_with fail
            go_at_call 57
            refine (HN.out _).mono ?_
            rintro e wN' ⟨rfl, rfl⟩
            go_wp2_with fail
            go_at_call 57
            refine (HM.out _).mono ?_
            rintro e wM' ⟨rfl, rfl⟩
            go_wp2_with fail
            go_at_call 46
            refine (HT1.out _ Bel.rf).mono ?_
            rintro e w1' ⟨rfl, hb1⟩
            go_wp2_with fail
            go_at_call 46
            refine (HT2.out _ hb1).mono ?_
            rintro e w2' ⟨rfl, hb2⟩
            go_wp2
            go_ret
            exact ⟨rfl, by first | exact Bel.rf | exact hb1.tr hb2 | exact hb1⟩
          · have q1 : ¬ (b : Int) < (n : Int) - (m : Int) := by omega
            have q2 : decide ((b : Int) < (n : Int) - (m : Int)) = false := decide_eq_false q1
            have q3 : (b : Int) < (m : Int) - (n : Int) := by omega
            have q4 : decide ((b : Int) < (m : Int) - (n : Int)) = true := decide_eq_true q3
            have HR : two n m L M b = 8 := by unfold two; rw [if_pos ⟨hnl, hml⟩, if_pos ⟨hal, ham⟩, if_neg (by omega)]
            rw [HR]
            clear HS1 HS2 HR
            go_enter Try.func39, Try.ntmps39
            go_wp2_with fail
            go_at_call 57
            refine (HN.out _).mono ?_
            rintro e wN' ⟨rfl, rfl⟩
            go_wp2_with fail
            go_at_call 57
            refine (HM.out _).mono ?_
            rintro e wM' ⟨rfl, rfl⟩
            go_wp2_with fail
            go_at_call 46
            refine (HT1.out _ Bel.rf).mono ?_
            rintro e w1' ⟨rfl, hb1⟩
            go_wp2_with fail
            go_at_call 46
            refine (HT2.out _ hb1).mono ?_
            rintro e w2' ⟨rfl, hb2⟩
            go_wp2
            go_ret
            exact ⟨rfl, by first | exact Bel.rf | exact hb1.tr hb2 | exact hb1⟩
          · have q1 : ¬ (b : Int) < (n : Int) - (m : Int) := by omega
            have q2 : decide ((b : Int) < (n : Int) - (m : Int)) = false := decide_eq_false q1
            have q3 : ¬ (b : Int) < (m : Int) - (n : Int) := by omega
            have q4 : decide ((b : Int) < (m : Int) - (n : Int)) = false := decide_eq_false q3
            have HR : two n m L M b = 0 := by unfold two; rw [if_pos ⟨hnl, hml⟩, if_pos ⟨hal, ham⟩, if_pos ⟨g1, g2⟩]
            rw [HR]
            clear HS1 HS2 HR
            go_enter Try.func39, Try.ntmps39
            go_wp2_with fail
            go_at_call 57
            refine (HN.out _).mono ?_
            rintro e wN' ⟨rfl, rfl⟩
            go_wp2_with fail
            go_at_call 57
            refine (HM.out _).mono ?_
            rintro e wM' ⟨rfl, rfl⟩
            go_wp2_with fail
            go_at_call 46
            refine (HT1.out _ Bel.rf).mono ?_
            rintro e w1' ⟨rfl, hb1⟩
            go_wp2_with fail
            go_at_call 46
            refine (HT2.out _ hb1).mono ?_
            rintro e w2' ⟨rfl, hb2⟩
            go_wp2
            go_ret
            exact ⟨rfl, by first | exact Bel.rf | exact hb1.tr hb2 | exact hb1⟩
        · have HT2 : Hid (∀ W, Bel w W → Calls Try.prog 46 #[.slice A' m c'] W fun e w' => e = .returned (.bool false) ∧ Bel W w') := fun W hW => by have := HS2.out W hW; rwa [show allS M = false from Bool.eq_false_iff.2 ham] at this
          have HR : two n m L M b = 12 := by unfold two; rw [if_pos ⟨hnl, hml⟩, if_neg (fun h => ham h.2)]
          rw [HR]
          clear HS1 HS2 HR
          go_enter Try.func39, Try.ntmps39
          go_wp2_with fail
          go_at_call 57
          refine (HN.out _).mono ?_
          rintro e wN' ⟨rfl, rfl⟩
          go_wp2_with fail
          go_at_call 57
          refine (HM.out _).mono ?_
          rintro e wM' ⟨rfl, rfl⟩
          go_wp2_with fail
          go_at_call 46
          refine (HT1.out _ Bel.rf).mono ?_
          rintro e w1' ⟨rfl, hb1⟩
          go_wp2_with fail
          go_at_call 46
          refine (HT2.out _ hb1).mono ?_
          rintro e w2' ⟨rfl, hb2⟩
          go_wp2
          go_ret
          exact ⟨rfl, by first | exact Bel.rf | exact hb1.tr hb2 | exact hb1⟩
      · have HT1 : Hid (∀ W, Bel w W → Calls Try.prog 46 #[.slice A n c] W fun e w' => e = .returned (.bool false) ∧ Bel W w') := fun W hW => by have := HS1.out W hW; rwa [show allS L = false from Bool.eq_false_iff.2 hal] at this
        have HT2 := HS2
        have HR : two n m L M b = 12 := by unfold two; rw [if_pos ⟨hnl, hml⟩, if_neg (fun h => hal h.1)]
        rw [HR]
        clear HS1 HR
        go_enter Try.func39, Try.ntmps39
        go_wp2_with fail
        go_at_call 57
        refine (HN.out _).mono ?_
        rintro e wN' ⟨rfl, rfl⟩
        go_wp2_with fail
        go_at_call 57
        refine (HM.out _).mono ?_
        rintro e wM' ⟨rfl, rfl⟩
        go_wp2_with fail
        go_at_call 46
        refine (HT1.out _ Bel.rf).mono ?_
        rintro e w1' ⟨rfl, hb1⟩
        go_wp2
        go_ret
        exact ⟨rfl, by first | exact Bel.rf | exact hb1.tr hb2 | exact hb1⟩
    · have HM : Hid (∀ W, Calls Try.prog 57 #[.int .i64 (m : Int)] W fun e w' => e = .returned (.bool false) ∧ W = w') := len_no hm hml
      have HT1 := HS1
      have HT2 := HS2
      have HR : two n m L M b = 8 := by unfold two; rw [if_neg (fun h => hml h.2)]
      rw [HR]
      clear HR
      go_enter Try.func39, Try.ntmps39
      go_wp2_with fail
      go_at_call 57
      refine (HN.out _).mono ?_
      rintro e wN' ⟨rfl, rfl⟩
      go_wp2_with fail
      go_at_call 57
      refine (HM.out _).mono ?_
      rintro e wM' ⟨rfl, rfl⟩
      go_wp2
      go_ret
      exact ⟨rfl, by first | exact Bel.rf | exact hb1.tr hb2 | exact hb1⟩
  · have HN : Hid (∀ W, Calls Try.prog 57 #[.int .i64 (n : Int)] W fun e w' => e = .returned (.bool false) ∧ W = w') := len_no hn hnl
    have HM := HN
    have HT1 := HS1
    have HT2 := HS2
    have HR : two n m L M b = 8 := by unfold two; rw [if_neg (fun h => hnl h.1)]
    rw [HR]
    clear HR
    go_enter Try.func39, Try.ntmps39
    go_wp2_with fail
    go_at_call 57
    refine (HN.out _).mono ?_
    rintro e wN' ⟨rfl, rfl⟩
    go_wp2
    go_ret
    exact ⟨rfl, by first | exact Bel.rf | exact hb1.tr hb2 | exact hb1⟩
set_option maxHeartbeats 4000000 in
set_option maxRecDepth 100000 in
theorem rtwo_any (A A' : Option Addr) (c c' n m : Nat) (L M : List Int) (b : Nat) (hb : b ≤ 100000000) (hn : n ≤ 100000000) (hm : m ≤ 100000000) (w : World) (h1 : Zi w A n L) (h2 : Zi w A' m M) :
    Calls Try.prog 41 #[.slice A n c, .slice A' m c', .int .i64 (b : Int)] w fun e w' => e = .returned (.int .i64 (two n m L M b)) ∧ Bel w w' := by
  have HS1 : Hid (∀ W, Bel w W → Calls Try.prog 60 #[.slice A n c] W fun e w' => e = .returned (.int .i64 (if allS L = true then 0 else 12)) ∧ Bel W w') := fun W hW => rsamples_any A c n L hn W (h1.bel hW)
  have HS2 : Hid (∀ W, Bel w W → Calls Try.prog 60 #[.slice A' m c'] W fun e w' => e = .returned (.int .i64 (if allS M = true then 0 else 12)) ∧ Bel W w') := fun W hW => rsamples_any A' c' m M hm W (h2.bel hW)
  clear h1 h2
  have b0 : 0 ≤ (b : Int) := by omega
  rcases Classical.em (lenOk n) with hnl | hnl
  · have n1 : 2 ≤ (n : Int) := by have := hnl.1; omega
    have n2 : (n : Int) ≤ 32 := by have := hnl.2; omega
    have n3 : decide ((n : Int) < 2) = false := decide_eq_false (by omega)
    have n4 : decide (32 < (n : Int)) = false := decide_eq_false (by omega)
    have n5 : ¬ (n : Int) < 2 := by omega
    have n6 : ¬ 32 < (n : Int) := by omega
    have HN : Hid (∀ W, Calls Try.prog 57 #[.int .i64 (n : Int)] W fun e w' => e = .returned (.bool true) ∧ W = w') := len_yes hnl
    rcases Classical.em (lenOk m) with hml | hml
    · have m1 : 2 ≤ (m : Int) := by have := hml.1; omega
      have m2 : (m : Int) ≤ 32 := by have := hml.2; omega
      have m3 : decide ((m : Int) < 2) = false := decide_eq_false (by omega)
      have m4 : decide (32 < (m : Int)) = false := decide_eq_false (by omega)
      have m5 : ¬ (m : Int) < 2 := by omega
      have m6 : ¬ 32 < (m : Int) := by omega
      have HM : Hid (∀ W, Calls Try.prog 57 #[.int .i64 (m : Int)] W fun e w' => e = .returned (.bool true) ∧ W = w') := len_yes hml
      rcases Classical.em (allS L = true) with hal | hal
      · have HT1 : Hid (∀ W, Bel w W → Calls Try.prog 60 #[.slice A n c] W fun e w' => e = .returned (.int .i64 0) ∧ Bel W w') := fun W hW => by have := HS1.out W hW; rwa [if_pos (show allS L = true from hal)] at this
        rcases Classical.em (allS M = true) with ham | ham
        · have HT2 : Hid (∀ W, Bel w W → Calls Try.prog 60 #[.slice A' m c'] W fun e w' => e = .returned (.int .i64 0) ∧ Bel W w') := fun W hW => by have := HS2.out W hW; rwa [if_pos (show allS M = true from ham)] at this
          rcases (by omega : m + b < n ∨ n + b < m ∨ (n ≤ m + b ∧ m ≤ n + b)) with g | g | ⟨g1, g2⟩
          · have q1 : (b : Int) < (n : Int) - (m : Int) := by omega
            have q2 : decide ((b : Int) < (n : Int) - (m : Int)) = true := decide_eq_true q1
            have HR : two n m L M b = 8 := by unfold two; rw [if_pos ⟨hnl, hml⟩, if_pos ⟨hal, ham⟩, if_neg (by omega)]
            rw [HR]
            clear HS1 HS2 HR
            go_enter Try.func41, Try.ntmps41
            go_wp2_with fail
            go_at_call 60
            refine (HT1.out _ Bel.rf).mono ?_
            rintro e w1' ⟨rfl, hb1⟩
            go_wp2_with fail
            go_at_call 60
            refine (HT2.out _ hb1).mono ?_
            rintro e w2' ⟨rfl, hb2⟩
            go_wp2
            go_ret
            exact ⟨rfl, by first | exact Bel.rf | exact hb1.tr hb2 | exact hb1⟩
          · have q1 : ¬ (b : Int) < (n : Int) - (m : Int) := by omega
            have q2 : decide ((b : Int) < (n : Int) - (m : Int)) = false := decide_eq_false q1
            have q3 : (b : Int) < (m : Int) - (n : Int) := by omega
            have q4 : decide ((b : Int) < (m : Int) - (n : Int)) = true := decide_eq_true q3
            have HR : two n m L M b = 8 := by unfold two; rw [if_pos ⟨hnl, hml⟩, if_pos ⟨hal, ham⟩, if_neg (by omega)]
            rw [HR]
            clear HS1 HS2 HR
            go_enter Try.func41, Try.ntmps41
            go_wp2_with fail
            go_at_call 60
            refine (HT1.out _ Bel.rf).mono ?_
            rintro e w1' ⟨rfl, hb1⟩
            go_wp2_with fail
            go_at_call 60
            refine (HT2.out _ hb1).mono ?_
            rintro e w2' ⟨rfl, hb2⟩
            go_wp2
            go_ret
            exact ⟨rfl, by first | exact Bel.rf | exact hb1.tr hb2 | exact hb1⟩
          · have q1 : ¬ (b : Int) < (n : Int) - (m : Int) := by omega
            have q2 : decide ((b : Int) < (n : Int) - (m : Int)) = false := decide_eq_false q1
            have q3 : ¬ (b : Int) < (m : Int) - (n : Int) := by omega
            have q4 : decide ((b : Int) < (m : Int) - (n : Int)) = false := decide_eq_false q3
            have HR : two n m L M b = 0 := by unfold two; rw [if_pos ⟨hnl, hml⟩, if_pos ⟨hal, ham⟩, if_pos ⟨g1, g2⟩]
            rw [HR]
            clear HS1 HS2 HR
            go_enter Try.func41, Try.ntmps41
            go_wp2_with fail
            go_at_call 60
            refine (HT1.out _ Bel.rf).mono ?_
            rintro e w1' ⟨rfl, hb1⟩
            go_wp2_with fail
            go_at_call 60
            refine (HT2.out _ hb1).mono ?_
            rintro e w2' ⟨rfl, hb2⟩
            go_wp2
            go_ret
            exact ⟨rfl, by first | exact Bel.rf | exact hb1.tr hb2 | exact hb1⟩
        · have HT2 : Hid (∀ W, Bel w W → Calls Try.prog 60 #[.slice A' m c'] W fun e w' => e = .returned (.int .i64 12) ∧ Bel W w') := fun W hW => by have := HS2.out W hW; rwa [if_neg (show ¬ allS M = true from ham)] at this
          have HR : two n m L M b = 12 := by unfold two; rw [if_pos ⟨hnl, hml⟩, if_neg (fun h => ham h.2)]
          rw [HR]
          clear HS1 HS2 HR
          go_enter Try.func41, Try.ntmps41
          go_wp2_with fail
          go_at_call 60
          refine (HT1.out _ Bel.rf).mono ?_
          rintro e w1' ⟨rfl, hb1⟩
          go_wp2_with fail
          go_at_call 60
          refine (HT2.out _ hb1).mono ?_
          rintro e w2' ⟨rfl, hb2⟩
          go_wp2
          go_ret
          exact ⟨rfl, by first | exact Bel.rf | exact hb1.tr hb2 | exact hb1⟩
      · have HT1 : Hid (∀ W, Bel w W → Calls Try.prog 60 #[.slice A n c] W fun e w' => e = .returned (.int .i64 12) ∧ Bel W w') := fun W hW => by have := HS1.out W hW; rwa [if_neg (show ¬ allS L = true from hal)] at this
        have HT2 := HS2
        have HR : two n m L M b = 12 := by unfold two; rw [if_pos ⟨hnl, hml⟩, if_neg (fun h => hal h.1)]
        rw [HR]
        clear HS1 HR
        go_enter Try.func41, Try.ntmps41
        go_wp2_with fail
        go_at_call 60
        refine (HT1.out _ Bel.rf).mono ?_
        rintro e w1' ⟨rfl, hb1⟩
        go_wp2
        go_ret
        exact ⟨rfl, by first | exact Bel.rf | exact hb1.tr hb2 | exact hb1⟩
    · have HT1 := HS1
      have HT2 := HS2
      have HM := HN
      have HR : two n m L M b = 8 := by unfold two; rw [if_neg (fun h => hml h.2)]
      rw [HR]
      clear HR
      rcases (by unfold lenOk at hml; omega : m < 2 ∨ (2 ≤ m ∧ 32 < m)) with g | ⟨g1, g2⟩
      · have p1 : (m : Int) < 2 := by omega
        have p2 : decide ((m : Int) < 2) = true := decide_eq_true p1
        go_enter Try.func41, Try.ntmps41
        go_wp2
        go_ret
        exact ⟨rfl, by first | exact Bel.rf | exact hb1.tr hb2 | exact hb1⟩
      · have p1 : ¬ (m : Int) < 2 := by omega
        have p2 : decide ((m : Int) < 2) = false := decide_eq_false p1
        have p3 : 32 < (m : Int) := by omega
        have p4 : decide (32 < (m : Int)) = true := decide_eq_true p3
        go_enter Try.func41, Try.ntmps41
        go_wp2
        go_ret
        exact ⟨rfl, by first | exact Bel.rf | exact hb1.tr hb2 | exact hb1⟩
  · have HN : True := trivial
    have HM : True := trivial
    have HT1 := HS1
    have HT2 := HS2
    have HR : two n m L M b = 8 := by unfold two; rw [if_neg (fun h => hnl h.1)]
    rw [HR]
    clear HR
    rcases (by unfold lenOk at hnl; omega : n < 2 ∨ (2 ≤ n ∧ 32 < n)) with g | ⟨g1, g2⟩
    · have p1 : (n : Int) < 2 := by omega
      have p2 : decide ((n : Int) < 2) = true := decide_eq_true p1
      go_enter Try.func41, Try.ntmps41
      go_wp2
      go_ret
      exact ⟨rfl, by first | exact Bel.rf | exact hb1.tr hb2 | exact hb1⟩
    · have p1 : ¬ (n : Int) < 2 := by omega
      have p2 : decide ((n : Int) < 2) = false := decide_eq_false p1
      have p3 : 32 < (n : Int) := by omega
      have p4 : decide (32 < (n : Int)) = true := decide_eq_true p3
      go_enter Try.func41, Try.ntmps41
      go_wp2
      go_ret
      exact ⟨rfl, by first | exact Bel.rf | exact hb1.tr hb2 | exact hb1⟩
end Go.Proofs.Ytekeclapbfjdiaa.Say
