/- Windows that are refused, of any lists. (mkem.py) -/
import Derived.Test.YtkonknkoggfeaaaZi
import Derived.Deep.CutBlock
import Derived.Test.YtkonknkoggfeaaaEuc0
import Derived.Test.YtkonknkoggfeaaaEucMath
import Derived.Test.YtkonknkoggfeaaaRatioMake
namespace Go.Proofs.Ytkonknkoggfeaaa.Say
open Go.ChangeShapes Go.WideShapes Go.RowKit Wo Sr Wi
set_option linter.unusedVariables false
def isS (x : Int) : Bool := decide (-1000 ≤ x) && decide (x ≤ 1000)
def allS (L : List Int) : Bool := L.all isS
theorem allS_no {L : List Int} {k n : Nat} (hL : L.length = n) (hk : k < n) (h : isS (L.getD k 0) = false) : allS L = false := by
  unfold allS
  rw [List.all_eq_false]
  refine ⟨L.getD k 0, ?_, by rw [h]; decide⟩
  rw [List.getD_eq_getElem?_getD, List.getElem?_eq_getElem (by omega)]
  exact List.getElem_mem _
theorem allS_yes {L : List Int} {n : Nat} (hL : L.length = n) (h : ∀ j, j < n → isS (L.getD j 0) = true) : allS L = true := by
  unfold allS
  rw [List.all_eq_true]
  intro x hx
  obtain ⟨i, hi, rfl⟩ := List.mem_iff_getElem.1 hx
  have := h i (by omega)
  rwa [List.getD_eq_getElem?_getD, List.getElem?_eq_getElem hi] at this
theorem sample_any (n : Int) (w : World) : Calls Try.prog 58 #[.int .i64 n] w fun e w' => e = .returned (.bool (isS n)) ∧ w = w' := by
  rcases (by omega : n < -1000 ∨ (-1000 ≤ n ∧ n ≤ 1000) ∨ 1000 < n) with h | ⟨h1, h2⟩ | h
  · have e1 : isS n = false := by unfold isS; rw [decide_eq_false (by omega)]; rfl
    rw [e1]
    have e2 : ¬ -1000 ≤ n := by omega
    have e3 : decide (-1000 ≤ n) = false := decide_eq_false e2
    go_enter Try.func58, Try.ntmps58
    go_wp2
    go_ret
    exact ⟨rfl, rfl⟩
  · have e1 : isS n = true := by unfold isS; rw [decide_eq_true h1, decide_eq_true h2]; rfl
    rw [e1]
    have e3 : decide (-1000 ≤ n) = true := decide_eq_true h1
    have e4 : decide (n ≤ 1000) = true := decide_eq_true h2
    go_enter Try.func58, Try.ntmps58
    go_wp2
    go_ret
    exact ⟨rfl, rfl⟩
  · have e1 : isS n = false := by unfold isS; rw [decide_eq_true (by omega), decide_eq_false (by omega)]; rfl
    rw [e1]
    have e5 : -1000 ≤ n := by omega
    have e3 : decide (-1000 ≤ n) = true := decide_eq_true e5
    have e6 : ¬ n ≤ 1000 := by omega
    have e4 : decide (n ≤ 1000) = false := decide_eq_false e6
    go_enter Try.func58, Try.ntmps58
    go_wp2
    go_ret
    exact ⟨rfl, rfl⟩
theorem rsample_any (n : Int) (w : World) : Calls Try.prog 59 #[.int .i64 n] w fun e w' => e = .returned (.bool (isS n)) ∧ w = w' := by
  rcases (by omega : n < -1000 ∨ (-1000 ≤ n ∧ n ≤ 1000) ∨ 1000 < n) with h | ⟨h1, h2⟩ | h
  · have e1 : isS n = false := by unfold isS; rw [decide_eq_false (by omega)]; rfl
    rw [e1]
    have e2 : ¬ -1000 ≤ n := by omega
    have e3 : decide (-1000 ≤ n) = false := decide_eq_false e2
    go_enter Try.func59, Try.ntmps59
    go_wp2
    go_ret
    exact ⟨rfl, rfl⟩
  · have e1 : isS n = true := by unfold isS; rw [decide_eq_true h1, decide_eq_true h2]; rfl
    rw [e1]
    have e3 : decide (-1000 ≤ n) = true := decide_eq_true h1
    have e4 : decide (n ≤ 1000) = true := decide_eq_true h2
    go_enter Try.func59, Try.ntmps59
    go_wp2
    go_ret
    exact ⟨rfl, rfl⟩
  · have e1 : isS n = false := by unfold isS; rw [decide_eq_true (by omega), decide_eq_false (by omega)]; rfl
    rw [e1]
    have e5 : -1000 ≤ n := by omega
    have e3 : decide (-1000 ≤ n) = true := decide_eq_true e5
    have e6 : ¬ n ≤ 1000 := by omega
    have e4 : decide (n ≤ 1000) = false := decide_eq_false e6
    go_enter Try.func59, Try.ntmps59
    go_wp2
    go_ret
    exact ⟨rfl, rfl⟩
set_option maxHeartbeats 4000000 in
theorem samples_any (A : Option Addr) (c n : Nat) (L : List Int) (hn : n ≤ 100000000) (w : World) (h : Zi w A n L) :
    Calls Try.prog 43 #[.slice A n c] w fun e w' => e = .returned (.bool (allS L)) ∧ Bel w w' := by
  have H1 := Lib.hid h
  have HL := Lib.hid h.1
  have ni : (n : Int) ≤ 100000000 := by omega
  clear h
  go_enter Try.func43, Try.ntmps43
  go_wp2
  go_loopw [7] (fun s7 wr => ∃ (k : Nat) (V : World), V = wr ∧ k ≤ n ∧ s7 = .int .i64 (k : Int) ∧ (∀ j, j < k → isS (L.getD j 0) = true) ∧ Bel w wr) (fun s7 _ => n - (intOf s7).toNat)
  case atStart => exact ⟨0, _, rfl, by omega, rfl, (fun j hj => by omega), Bel.rf⟩
  case round =>
    obtain ⟨k, wr, hwr, hk, rfl, hall, hb⟩ := hrel
    subst hwr
    have HB := Lib.hid hb
    have HA := Lib.hid hall
    clear hall
    rcases Nat.lt_or_ge k n with hlt | hge
    · obtain ⟨ad, rfl, hab, hac⟩ := (H1.out.bel hb).2 (by omega)
      have c1 := hac k hlt
      obtain ⟨x, hxe⟩ : ∃ x, L.getD k 0 = x := ⟨_, rfl⟩
      rw [hxe] at c1
      have ki : (k : Int) < (n : Int) := by omega
      rcases hb1 : isS x with _ | _
      · have HNO : Hid (allS L = false) := allS_no HL.out hlt (by rw [hxe]; exact hb1)
        clear hb hac hab hxe
        have HSX : Hid (∀ W, Calls Try.prog 58 #[.int .i64 x] W fun e w' => e = .returned (.bool false) ∧ W = w') := fun W => by rw [← hb1]; exact sample_any x W
        clear hb1
        go_wp2_with (go_at_call 58; refine (HSX.out _).mono ?_; rintro e w' ⟨rfl, rfl⟩)
        go_ret
        exact ⟨by rw [HNO.out]; rfl, by first | exact HB.out | exact HB.out.drwN _ | exact HB.out.drw⟩
      · have HA2 : Hid (∀ j, j < k + 1 → isS (L.getD j 0) = true) := fun j hj => by
          rcases Nat.lt_or_ge j k with h | h
          · exact HA.out j h
          · obtain rfl : j = k := by omega
            rw [hxe]; exact hb1
        clear hb hac hab hxe
        have HSX : Hid (∀ W, Calls Try.prog 58 #[.int .i64 x] W fun e w' => e = .returned (.bool true) ∧ W = w') := fun W => by rw [← hb1]; exact sample_any x W
        clear hb1
        go_wp2_with (go_at_call 58; refine (HSX.out _).mono ?_; rintro e w' ⟨rfl, rfl⟩)
        go_roundw
        case rel => exact ⟨k + 1, _, rfl, by omega, by go_num, HA2.out, by first | exact HB.out | exact HB.out.drwN _ | exact HB.out.drw⟩
        case measure => simp [intOf]; omega
    · obtain rfl : k = n := by omega
      have HY : Hid (allS L = true) := allS_yes HL.out HA.out
      clear hb
      go_wp2
      go_ret
      exact ⟨by rw [HY.out]; rfl, HB.out⟩
set_option maxHeartbeats 4000000 in
theorem rsamples_any (A : Option Addr) (c n : Nat) (L : List Int) (hn : n ≤ 100000000) (w : World) (h : Zi w A n L) :
    Calls Try.prog 46 #[.slice A n c] w fun e w' => e = .returned (.int .i64 (if allS L = true then 0 else 12)) ∧ Bel w w' := by
  have H1 := Lib.hid h
  have HL := Lib.hid h.1
  have ni : (n : Int) ≤ 100000000 := by omega
  obtain ⟨R, hR⟩ : ∃ R : Int, (if allS L = true then (0 : Int) else 12) = R := ⟨_, rfl⟩
  rw [hR]
  have HR := Lib.hid hR
  clear h hR
  go_enter Try.func46, Try.ntmps46
  go_wp2
  go_loopw [6] (fun s7 wr => ∃ (k : Nat) (V : World), V = wr ∧ k ≤ n ∧ s7 = .int .i64 (k : Int) ∧ (∀ j, j < k → isS (L.getD j 0) = true) ∧ Bel w wr) (fun s7 _ => n - (intOf s7).toNat)
  case atStart => exact ⟨0, _, rfl, by omega, rfl, (fun j hj => by omega), Bel.rf⟩
  case round =>
    obtain ⟨k, wr, hwr, hk, rfl, hall, hb⟩ := hrel
    subst hwr
    have HB := Lib.hid hb
    have HA := Lib.hid hall
    clear hall
    rcases Nat.lt_or_ge k n with hlt | hge
    · obtain ⟨ad, rfl, hab, hac⟩ := (H1.out.bel hb).2 (by omega)
      have c1 := hac k hlt
      obtain ⟨x, hxe⟩ : ∃ x, L.getD k 0 = x := ⟨_, rfl⟩
      rw [hxe] at c1
      have ki : (k : Int) < (n : Int) := by omega
      rcases hb1 : isS x with _ | _
      · have HNO : Hid (allS L = false) := allS_no HL.out hlt (by rw [hxe]; exact hb1)
        clear hb hac hab hxe
        have HSX : Hid (∀ W, Calls Try.prog 59 #[.int .i64 x] W fun e w' => e = .returned (.bool false) ∧ W = w') := fun W => by rw [← hb1]; exact rsample_any x W
        clear hb1
        go_wp2_with (go_at_call 59; refine (HSX.out _).mono ?_; rintro e w' ⟨rfl, rfl⟩)
        go_ret
        exact ⟨by have e := HR.out; rw [HNO.out] at e; rw [← e]; rfl, by first | exact HB.out | exact HB.out.drwN _ | exact HB.out.drw⟩
      · have HA2 : Hid (∀ j, j < k + 1 → isS (L.getD j 0) = true) := fun j hj => by
          rcases Nat.lt_or_ge j k with h | h
          · exact HA.out j h
          · obtain rfl : j = k := by omega
            rw [hxe]; exact hb1
        clear hb hac hab hxe
        have HSX : Hid (∀ W, Calls Try.prog 59 #[.int .i64 x] W fun e w' => e = .returned (.bool true) ∧ W = w') := fun W => by rw [← hb1]; exact rsample_any x W
        clear hb1
        go_wp2_with (go_at_call 59; refine (HSX.out _).mono ?_; rintro e w' ⟨rfl, rfl⟩)
        go_roundw
        case rel => exact ⟨k + 1, _, rfl, by omega, by go_num, HA2.out, by first | exact HB.out | exact HB.out.drwN _ | exact HB.out.drw⟩
        case measure => simp [intOf]; omega
    · obtain rfl : k = n := by omega
      have HY : Hid (allS L = true) := allS_yes HL.out HA.out
      clear hb
      go_wp2
      go_ret
      exact ⟨by have e := HR.out; rw [HY.out] at e; rw [← e]; rfl, HB.out⟩
/-- a length that a window can have -/
def lenOk (n : Nat) : Prop := 2 ≤ n ∧ n ≤ 32
theorem length_any (n : Nat) (hn : n ≤ 100000000) (w : World) : Calls Try.prog 23 #[.int .i64 (n : Int)] w fun e w' => ((e = .returned (.bool true) ∧ lenOk n) ∨ (e = .returned (.bool false) ∧ ¬ lenOk n)) ∧ w = w' := by
  rcases (by omega : n < 2 ∨ (2 ≤ n ∧ n ≤ 32) ∨ 32 < n) with h | ⟨h1, h2⟩ | h
  · have e2 : ¬ 2 ≤ (n : Int) := by omega
    have e3 : decide (2 ≤ (n : Int)) = false := decide_eq_false e2
    have hno : ¬ lenOk n := fun ⟨a, b⟩ => by omega
    go_enter Try.func23, Try.ntmps23
    go_wp2
    go_ret
    first | exact ⟨rfl, rfl⟩ | exact ⟨.inr ⟨rfl, hno⟩, rfl⟩
  · have e5 : 2 ≤ (n : Int) := by omega
    have e3 : decide (2 ≤ (n : Int)) = true := decide_eq_true e5
    have e6 : (n : Int) ≤ 32 := by omega
    have e4 : decide ((n : Int) ≤ 32) = true := decide_eq_true e6
    have hyes : lenOk n := ⟨h1, h2⟩
    go_enter Try.func23, Try.ntmps23
    go_wp2
    go_ret
    first | exact ⟨rfl, rfl⟩ | exact ⟨.inl ⟨rfl, hyes⟩, rfl⟩
  · have e5 : 2 ≤ (n : Int) := by omega
    have e3 : decide (2 ≤ (n : Int)) = true := decide_eq_true e5
    have e6 : ¬ (n : Int) ≤ 32 := by omega
    have e4 : decide ((n : Int) ≤ 32) = false := decide_eq_false e6
    have hno : ¬ lenOk n := fun ⟨a, b⟩ => by omega
    go_enter Try.func23, Try.ntmps23
    go_wp2
    go_ret
    first | exact ⟨rfl, rfl⟩ | exact ⟨.inr ⟨rfl, hno⟩, rfl⟩
end Go.Proofs.Ytkonknkoggfeaaa.Say
namespace Go.Proofs.Ytkonknkoggfeaaa.Say
open Go.ChangeShapes Go.WideShapes Go.RowKit Wo Sr Wi
set_option linter.unusedVariables false
set_option linter.unusedSimpArgs false
instance (n : Nat) : Decidable (lenOk n) := inferInstanceAs (Decidable (2 ≤ n ∧ n ≤ 32))
/-- the first error of two lists whose lengths may differ by b -/
def two (n m : Nat) (L M : List Int) (b : Nat) : Int :=
  if lenOk n ∧ lenOk m then (if allS L = true ∧ allS M = true then (if n ≤ m + b ∧ m ≤ n + b then 0 else 8) else 12) else 8
theorem len_yes {n : Nat} (h : lenOk n) (w : World) : Calls Try.prog 23 #[.int .i64 (n : Int)] w fun e w' => e = .returned (.bool true) ∧ w = w' := by
  refine (length_any n (by have := h.2; omega) w).mono ?_
  rintro e w' ⟨⟨h1, _⟩ | ⟨_, h2⟩, hw⟩
  · exact ⟨h1, hw⟩
  · exact absurd h h2
theorem len_no {n : Nat} (hn : n ≤ 100000000) (h : ¬ lenOk n) (w : World) : Calls Try.prog 23 #[.int .i64 (n : Int)] w fun e w' => e = .returned (.bool false) ∧ w = w' := by
  refine (length_any n hn w).mono ?_
  rintro e w' ⟨⟨_, h1⟩ | ⟨h2, _⟩, hw⟩
  · exact absurd h1 h
  · exact ⟨h2, hw⟩
set_option maxHeartbeats 4000000 in
set_option maxRecDepth 100000 in
theorem windows_any (A A' : Option Addr) (c c' n m : Nat) (L M : List Int) (b : Nat) (hb : b ≤ 100000000) (hn : n ≤ 100000000) (hm : m ≤ 100000000) (w : World) (h1 : Zi w A n L) (h2 : Zi w A' m M) :
    Calls Try.prog 47 #[.slice A n c, .slice A' m c', .int .i64 (b : Int)] w fun e w' => e = .returned (.int .i64 (two n m L M b)) ∧ Bel w w' := by
  have HS1 : Hid (∀ W, Bel w W → Calls Try.prog 43 #[.slice A n c] W fun e w' => e = .returned (.bool (allS L)) ∧ Bel W w') := fun W hW => samples_any A c n L hn W (h1.bel hW)
  have HS2 : Hid (∀ W, Bel w W → Calls Try.prog 43 #[.slice A' m c'] W fun e w' => e = .returned (.bool (allS M)) ∧ Bel W w') := fun W hW => samples_any A' c' m M hm W (h2.bel hW)
  clear h1 h2
  have b0 : 0 ≤ (b : Int) := by omega
  rcases Classical.em (lenOk n) with hnl | hnl
  · have n1 : 2 ≤ (n : Int) := by have := hnl.1; omega
    have n2 : (n : Int) ≤ 32 := by have := hnl.2; omega
    have n3 : decide ((n : Int) < 2) = false := decide_eq_false (by omega)
    have n4 : decide (32 < (n : Int)) = false := decide_eq_false (by omega)
    have n5 : ¬ (n : Int) < 2 := by omega
    have n6 : ¬ 32 < (n : Int) := by omega
    have HN : Hid (∀ W, Calls Try.prog 23 #[.int .i64 (n : Int)] W fun e w' => e = .returned (.bool true) ∧ W = w') := len_yes hnl
    rcases Classical.em (lenOk m) with hml | hml
    · have m1 : 2 ≤ (m : Int) := by have := hml.1; omega
      have m2 : (m : Int) ≤ 32 := by have := hml.2; omega
      have m3 : decide ((m : Int) < 2) = false := decide_eq_false (by omega)
      have m4 : decide (32 < (m : Int)) = false := decide_eq_false (by omega)
      have m5 : ¬ (m : Int) < 2 := by omega
      have m6 : ¬ 32 < (m : Int) := by omega
      have HM : Hid (∀ W, Calls Try.prog 23 #[.int .i64 (m : Int)] W fun e w' => e = .returned (.bool true) ∧ W = w') := len_yes hml
      rcases Classical.em (allS L = true) with hal | hal
      · have HT1 : Hid (∀ W, Bel w W → Calls Try.prog 43 #[.slice A n c] W fun e w' => e = .returned (.bool true) ∧ Bel W w') := fun W hW => by have := HS1.out W hW; rwa [show allS L = true from hal] at this
        rcases Classical.em (allS M = true) with ham | ham
        · have HT2 : Hid (∀ W, Bel w W → Calls Try.prog 43 #[.slice A' m c'] W fun e w' => e = .returned (.bool true) ∧ Bel W w') := fun W hW => by have := HS2.out W hW; rwa [show allS M = true from ham] at this
          rcases (by omega : m + b < n ∨ n + b < m ∨ (n ≤ m + b ∧ m ≤ n + b)) with g | g | ⟨g1, g2⟩
          · have q1 : (b : Int) < (n : Int) - (m : Int) := by omega
            have q2 : decide ((b : Int) < (n : Int) - (m : Int)) = true := decide_eq_true q1
            have HR : two n m L M b = 8 := by unfold two; rw [if_pos ⟨hnl, hml⟩, if_pos ⟨hal, ham⟩, if_neg (by omega)]
            rw [HR]
            clear HS1 HS2 HR
            go_enter Try.func47, Try.ntmps47
            go_wp2_with fail
            go_at_call 23
            refine (HN.out _).mono ?_
            rintro e wN' ⟨rfl, rfl⟩
            go_wp2_with fail
            go_at_call 23
            refine (HM.out _).mono ?_
            rintro e wM' ⟨rfl, rfl⟩
            go_wp2_with fail
            go_at_call 43
            refine (HT1.out _ Bel.rf).mono ?_
            rintro e w1' ⟨rfl, hb1⟩
            go_wp2_with fail
            go_at_call 43
            refine (HT2.out _ hb1).mono ?_
            rintro e w2' ⟨rfl, hb2⟩
            go_wp2
            go_ret
            exact ⟨rfl, by first | exact Bel.rf | exact hb1.tr hb2 | exact hb1⟩
          · have q1 : ¬ (b : Int) < (n : Int) - (m : Int) := by omega
            have q2 : decide ((b : Int) < (n : Int) - (m : Int)) = false := decide_eq_false q1
            have q3 : (b : Int) < (m : Int) - (n : Int) := by omega
            have q4 : decide ((b : Int) < (m : Int) - (n : Int)) = true := decide_eq_true q3
            have HR : two n m L M b = 8 := by unfold two; rw [if_pos ⟨hnl, hml⟩, if_pos ⟨hal, ham⟩, if_neg (by omega)]
            rw [HR]
            clear HS1 HS2 HR
            go_enter Try.func47, Try.ntmps47
            go_wp2_with fail
            go_at_call 23
            refine (HN.out _).mono ?_
            rintro e wN' ⟨rfl, rfl⟩
            go_wp2_with fail
            go_at_call 23
            refine (HM.out _).mono ?_
            rintro e wM' ⟨rfl, rfl⟩
            go_wp2_with fail
            go_at_call 43
            refine (HT1.out _ Bel.rf).mono ?_
            rintro e w1' ⟨rfl, hb1⟩
            go_wp2_with fail
            go_at_call 43
            refine (HT2.out _ hb1).mono ?_
            rintro e w2' ⟨rfl, hb2⟩
            go_wp2
            go_ret
            exact ⟨rfl, by first | exact Bel.rf | exact hb1.tr hb2 | exact hb1⟩
          · have q1 : ¬ (b : Int) < (n : Int) - (m : Int) := by omega
            have q2 : decide ((b : Int) < (n : Int) - (m : Int)) = false := decide_eq_false q1
            have q3 : ¬ (b : Int) < (m : Int) - (n : Int) := by omega
            have q4 : decide ((b : Int) < (m : Int) - (n : Int)) = false := decide_eq_false q3
            have HR : two n m L M b = 0 := by unfold two; rw [if_pos ⟨hnl, hml⟩, if_pos ⟨hal, ham⟩, if_pos ⟨g1, g2⟩]
            rw [HR]
            clear HS1 HS2 HR
            go_enter Try.func47, Try.ntmps47
            go_wp2_with fail
            go_at_call 23
            refine (HN.out _).mono ?_
            rintro e wN' ⟨rfl, rfl⟩
            go_wp2_with fail
            go_at_call 23
            refine (HM.out _).mono ?_
            rintro e wM' ⟨rfl, rfl⟩
            go_wp2_with fail
            go_at_call 43
            refine (HT1.out _ Bel.rf).mono ?_
            rintro e w1' ⟨rfl, hb1⟩
            go_wp2_with fail
            go_at_call 43
            refine (HT2.out _ hb1).mono ?_
            rintro e w2' ⟨rfl, hb2⟩
            go_wp2
            go_ret
            exact ⟨rfl, by first | exact Bel.rf | exact hb1.tr hb2 | exact hb1⟩
        · have HT2 : Hid (∀ W, Bel w W → Calls Try.prog 43 #[.slice A' m c'] W fun e w' => e = .returned (.bool false) ∧ Bel W w') := fun W hW => by have := HS2.out W hW; rwa [show allS M = false from Bool.eq_false_iff.2 ham] at this
          have HR : two n m L M b = 12 := by unfold two; rw [if_pos ⟨hnl, hml⟩, if_neg (fun h => ham h.2)]
          rw [HR]
          clear HS1 HS2 HR
          go_enter Try.func47, Try.ntmps47
          go_wp2_with fail
          go_at_call 23
          refine (HN.out _).mono ?_
          rintro e wN' ⟨rfl, rfl⟩
          go_wp2_with fail
          go_at_call 23
          refine (HM.out _).mono ?_
          rintro e wM' ⟨rfl, rfl⟩
          go_wp2_with fail
          go_at_call 43
          refine (HT1.out _ Bel.rf).mono ?_
          rintro e w1' ⟨rfl, hb1⟩
          go_wp2_with fail
          go_at_call 43
          refine (HT2.out _ hb1).mono ?_
          rintro e w2' ⟨rfl, hb2⟩
          go_wp2
          go_ret
          exact ⟨rfl, by first | exact Bel.rf | exact hb1.tr hb2 | exact hb1⟩
      · have HT1 : Hid (∀ W, Bel w W → Calls Try.prog 43 #[.slice A n c] W fun e w' => e = .returned (.bool false) ∧ Bel W w') := fun W hW => by have := HS1.out W hW; rwa [show allS L = false from Bool.eq_false_iff.2 hal] at this
        have HT2 := HS2
        have HR : two n m L M b = 12 := by unfold two; rw [if_pos ⟨hnl, hml⟩, if_neg (fun h => hal h.1)]
        rw [HR]
        clear HS1 HR
        go_enter Try.func47, Try.ntmps47
        go_wp2_with fail
        go_at_call 23
        refine (HN.out _).mono ?_
        rintro e wN' ⟨rfl, rfl⟩
        go_wp2_with fail
        go_at_call 23
        refine (HM.out _).mono ?_
        rintro e wM' ⟨rfl, rfl⟩
        go_wp2_with fail
        go_at_call 43
        refine (HT1.out _ Bel.rf).mono ?_
        rintro e w1' ⟨rfl, hb1⟩
        go_wp2
        go_ret
        exact ⟨rfl, by first | exact Bel.rf | exact hb1.tr hb2 | exact hb1⟩
    · have HM : Hid (∀ W, Calls Try.prog 23 #[.int .i64 (m : Int)] W fun e w' => e = .returned (.bool false) ∧ W = w') := len_no hm hml
      have HT1 := HS1
      have HT2 := HS2
      have HR : two n m L M b = 8 := by unfold two; rw [if_neg (fun h => hml h.2)]
      rw [HR]
      clear HR
      go_enter Try.func47, Try.ntmps47
      go_wp2_with fail
      go_at_call 23
      refine (HN.out _).mono ?_
      rintro e wN' ⟨rfl, rfl⟩
      go_wp2_with fail
      go_at_call 23
      refine (HM.out _).mono ?_
      rintro e wM' ⟨rfl, rfl⟩
      go_wp2
      go_ret
      exact ⟨rfl, by first | exact Bel.rf | exact hb1.tr hb2 | exact hb1⟩
  · have HN : Hid (∀ W, Calls Try.prog 23 #[.int .i64 (n : Int)] W fun e w' => e = .returned (.bool false) ∧ W = w') := len_no hn hnl
    have HM := HN
    have HT1 := HS1
    have HT2 := HS2
    have HR : two n m L M b = 8 := by unfold two; rw [if_neg (fun h => hnl h.1)]
    rw [HR]
    clear HR
    go_enter Try.func47, Try.ntmps47
    go_wp2_with fail
    go_at_call 23
    refine (HN.out _).mono ?_
    rintro e wN' ⟨rfl, rfl⟩
    go_wp2
    go_ret
    exact ⟨rfl, by first | exact Bel.rf | exact hb1.tr hb2 | exact hb1⟩
set_option maxHeartbeats 4000000 in
set_option maxRecDepth 100000 in
theorem rtwo_any (A A' : Option Addr) (c c' n m : Nat) (L M : List Int) (b : Nat) (hb : b ≤ 100000000) (hn : n ≤ 100000000) (hm : m ≤ 100000000) (w : World) (h1 : Zi w A n L) (h2 : Zi w A' m M) :
    Calls Try.prog 48 #[.slice A n c, .slice A' m c', .int .i64 (b : Int)] w fun e w' => e = .returned (.int .i64 (two n m L M b)) ∧ Bel w w' := by
  have HS1 : Hid (∀ W, Bel w W → Calls Try.prog 46 #[.slice A n c] W fun e w' => e = .returned (.int .i64 (if allS L = true then 0 else 12)) ∧ Bel W w') := fun W hW => rsamples_any A c n L hn W (h1.bel hW)
  have HS2 : Hid (∀ W, Bel w W → Calls Try.prog 46 #[.slice A' m c'] W fun e w' => e = .returned (.int .i64 (if allS M = true then 0 else 12)) ∧ Bel W w') := fun W hW => rsamples_any A' c' m M hm W (h2.bel hW)
  clear h1 h2
  have b0 : 0 ≤ (b : Int) := by omega
  rcases Classical.em (lenOk n) with hnl | hnl
  · have n1 : 2 ≤ (n : Int) := by have := hnl.1; omega
    have n2 : (n : Int) ≤ 32 := by have := hnl.2; omega
    have n3 : decide ((n : Int) < 2) = false := decide_eq_false (by omega)
    have n4 : decide (32 < (n : Int)) = false := decide_eq_false (by omega)
    have n5 : ¬ (n : Int) < 2 := by omega
    have n6 : ¬ 32 < (n : Int) := by omega
    have HN : Hid (∀ W, Calls Try.prog 23 #[.int .i64 (n : Int)] W fun e w' => e = .returned (.bool true) ∧ W = w') := len_yes hnl
    rcases Classical.em (lenOk m) with hml | hml
    · have m1 : 2 ≤ (m : Int) := by have := hml.1; omega
      have m2 : (m : Int) ≤ 32 := by have := hml.2; omega
      have m3 : decide ((m : Int) < 2) = false := decide_eq_false (by omega)
      have m4 : decide (32 < (m : Int)) = false := decide_eq_false (by omega)
      have m5 : ¬ (m : Int) < 2 := by omega
      have m6 : ¬ 32 < (m : Int) := by omega
      have HM : Hid (∀ W, Calls Try.prog 23 #[.int .i64 (m : Int)] W fun e w' => e = .returned (.bool true) ∧ W = w') := len_yes hml
      rcases Classical.em (allS L = true) with hal | hal
      · have HT1 : Hid (∀ W, Bel w W → Calls Try.prog 46 #[.slice A n c] W fun e w' => e = .returned (.int .i64 0) ∧ Bel W w') := fun W hW => by have := HS1.out W hW; rwa [if_pos (show allS L = true from hal)] at this
        rcases Classical.em (allS M = true) with ham | ham
        · have HT2 : Hid (∀ W, Bel w W → Calls Try.prog 46 #[.slice A' m c'] W fun e w' => e = .returned (.int .i64 0) ∧ Bel W w') := fun W hW => by have := HS2.out W hW; rwa [if_pos (show allS M = true from ham)] at this
          rcases (by omega : m + b < n ∨ n + b < m ∨ (n ≤ m + b ∧ m ≤ n + b)) with g | g | ⟨g1, g2⟩
          · have q1 : (b : Int) < (n : Int) - (m : Int) := by omega
            have q2 : decide ((b : Int) < (n : Int) - (m : Int)) = true := decide_eq_true q1
            have HR : two n m L M b = 8 := by unfold two; rw [if_pos ⟨hnl, hml⟩, if_pos ⟨hal, ham⟩, if_neg (by omega)]
            rw [HR]
            clear HS1 HS2 HR
            go_enter Try.func48, Try.ntmps48
            go_wp2_with fail
            go_at_call 46
            refine (HT1.out _ Bel.rf).mono ?_
            rintro e w1' ⟨rfl, hb1⟩
            go_wp2_with fail
            go_at_call 46
            refine (HT2.out _ hb1).mono ?_
            rintro e w2' ⟨rfl, hb2⟩
            go_wp2
            go_ret
            exact ⟨rfl, by first | exact Bel.rf | exact hb1.tr hb2 | exact hb1⟩
          · have q1 : ¬ (b : Int) < (n : Int) - (m : Int) := by omega
            have q2 : decide ((b : Int) < (n : Int) - (m : Int)) = false := decide_eq_false q1
            have q3 : (b : Int) < (m : Int) - (n : Int) := by omega
            have q4 : decide ((b : Int) < (m : Int) - (n : Int)) = true := decide_eq_true q3
            have HR : two n m L M b = 8 := by unfold two; rw [if_pos ⟨hnl, hml⟩, if_pos ⟨hal, ham⟩, if_neg (by omega)]
            rw [HR]
            clear HS1 HS2 HR
            go_enter Try.func48, Try.ntmps48
            go_wp2_with fail
            go_at_call 46
            refine (HT1.out _ Bel.rf).mono ?_
            rintro e w1' ⟨rfl, hb1⟩
            go_wp2_with fail
            go_at_call 46
            refine (HT2.out _ hb1).mono ?_
            rintro e w2' ⟨rfl, hb2⟩
            go_wp2
            go_ret
            exact ⟨rfl, by first | exact Bel.rf | exact hb1.tr hb2 | exact hb1⟩
          · have q1 : ¬ (b : Int) < (n : Int) - (m : Int) := by omega
            have q2 : decide ((b : Int) < (n : Int) - (m : Int)) = false := decide_eq_false q1
            have q3 : ¬ (b : Int) < (m : Int) - (n : Int) := by omega
            have q4 : decide ((b : Int) < (m : Int) - (n : Int)) = false := decide_eq_false q3
            have HR : two n m L M b = 0 := by unfold two; rw [if_pos ⟨hnl, hml⟩, if_pos ⟨hal, ham⟩, if_pos ⟨g1, g2⟩]
            rw [HR]
            clear HS1 HS2 HR
            go_enter Try.func48, Try.ntmps48
            go_wp2_with fail
            go_at_call 46
            refine (HT1.out _ Bel.rf).mono ?_
            rintro e w1' ⟨rfl, hb1⟩
            go_wp2_with fail
            go_at_call 46
            refine (HT2.out _ hb1).mono ?_
            rintro e w2' ⟨rfl, hb2⟩
            go_wp2
            go_ret
            exact ⟨rfl, by first | exact Bel.rf | exact hb1.tr hb2 | exact hb1⟩
        · have HT2 : Hid (∀ W, Bel w W → Calls Try.prog 46 #[.slice A' m c'] W fun e w' => e = .returned (.int .i64 12) ∧ Bel W w') := fun W hW => by have := HS2.out W hW; rwa [if_neg (show ¬ allS M = true from ham)] at this
          have HR : two n m L M b = 12 := by unfold two; rw [if_pos ⟨hnl, hml⟩, if_neg (fun h => ham h.2)]
          rw [HR]
          clear HS1 HS2 HR
          go_enter Try.func48, Try.ntmps48
          go_wp2_with fail
          go_at_call 46
          refine (HT1.out _ Bel.rf).mono ?_
          rintro e w1' ⟨rfl, hb1⟩
          go_wp2_with fail
          go_at_call 46
          refine (HT2.out _ hb1).mono ?_
          rintro e w2' ⟨rfl, hb2⟩
          go_wp2
          go_ret
          exact ⟨rfl, by first | exact Bel.rf | exact hb1.tr hb2 | exact hb1⟩
      · have HT1 : Hid (∀ W, Bel w W → Calls Try.prog 46 #[.slice A n c] W fun e w' => e = .returned (.int .i64 12) ∧ Bel W w') := fun W hW => by have := HS1.out W hW; rwa [if_neg (show ¬ allS L = true from hal)] at this
        have HT2 := HS2
        have HR : two n m L M b = 12 := by unfold two; rw [if_pos ⟨hnl, hml⟩, if_neg (fun h => hal h.1)]
        rw [HR]
        clear HS1 HR
        go_enter Try.func48, Try.ntmps48
        go_wp2_with fail
        go_at_call 46
        refine (HT1.out _ Bel.rf).mono ?_
        rintro e w1' ⟨rfl, hb1⟩
        go_wp2
        go_ret
        exact ⟨rfl, by first | exact Bel.rf | exact hb1.tr hb2 | exact hb1⟩
    · have HT1 := HS1
      have HT2 := HS2
      have HM := HN
      have HR : two n m L M b = 8 := by unfold two; rw [if_neg (fun h => hml h.2)]
      rw [HR]
      clear HR
      rcases (by unfold lenOk at hml; omega : m < 2 ∨ (2 ≤ m ∧ 32 < m)) with g | ⟨g1, g2⟩
      · have p1 : (m : Int) < 2 := by omega
        have p2 : decide ((m : Int) < 2) = true := decide_eq_true p1
        go_enter Try.func48, Try.ntmps48
        go_wp2
        go_ret
        exact ⟨rfl, by first | exact Bel.rf | exact hb1.tr hb2 | exact hb1⟩
      · have p1 : ¬ (m : Int) < 2 := by omega
        have p2 : decide ((m : Int) < 2) = false := decide_eq_false p1
        have p3 : 32 < (m : Int) := by omega
        have p4 : decide (32 < (m : Int)) = true := decide_eq_true p3
        go_enter Try.func48, Try.ntmps48
        go_wp2
        go_ret
        exact ⟨rfl, by first | exact Bel.rf | exact hb1.tr hb2 | exact hb1⟩
  · have HN : True := trivial
    have HM : True := trivial
    have HT1 := HS1
    have HT2 := HS2
    have HR : two n m L M b = 8 := by unfold two; rw [if_neg (fun h => hnl h.1)]
    rw [HR]
    clear HR
    rcases (by unfold lenOk at hnl; omega : n < 2 ∨ (2 ≤ n ∧ 32 < n)) with g | ⟨g1, g2⟩
    · have p1 : (n : Int) < 2 := by omega
      have p2 : decide ((n : Int) < 2) = true := decide_eq_true p1
      go_enter Try.func48, Try.ntmps48
      go_wp2
      go_ret
      exact ⟨rfl, by first | exact Bel.rf | exact hb1.tr hb2 | exact hb1⟩
    · have p1 : ¬ (n : Int) < 2 := by omega
      have p2 : decide ((n : Int) < 2) = false := decide_eq_false p1
      have p3 : 32 < (n : Int) := by omega
      have p4 : decide (32 < (n : Int)) = true := decide_eq_true p3
      go_enter Try.func48, Try.ntmps48
      go_wp2
      go_ret
      exact ⟨rfl, by first | exact Bel.rf | exact hb1.tr hb2 | exact hb1⟩
end Go.Proofs.Ytkonknkoggfeaaa.Say
namespace Go.Proofs.Ytkonknkoggfeaaa.Say
open Go.ChangeShapes Go.WideShapes Go.RowKit Wo Sr Wi
set_option linter.unusedVariables false
/-- the error of a list that is to be a window -/
def one (n : Nat) (L : List Int) : Int := if lenOk n then (if allS L = true then 0 else 12) else 8
set_option maxHeartbeats 4000000 in
theorem window_any (A : Option Addr) (c n : Nat) (L : List Int) (hn : n ≤ 100000000) (w : World) (h1 : Zi w A n L) :
    Calls Try.prog 22 #[.slice A n c] w fun e w' => e = .returned (.int .i64 (one n L)) ∧ Bel w w' := by
  have HS1 := Lib.hid (samples_any A c n L hn w h1)
  clear h1
  rcases Classical.em (lenOk n) with hnl | hnl
  · have n1 : 2 ≤ (n : Int) := by have := hnl.1; omega
    have n2 : (n : Int) ≤ 32 := by have := hnl.2; omega
    have n3 : decide ((n : Int) < 2) = false := decide_eq_false (by omega)
    have n4 : decide (32 < (n : Int)) = false := decide_eq_false (by omega)
    have n5 : ¬ (n : Int) < 2 := by omega
    have n6 : ¬ 32 < (n : Int) := by omega
    have HN : Hid (∀ W, Calls Try.prog 23 #[.int .i64 (n : Int)] W fun e w' => e = .returned (.bool true) ∧ W = w') := len_yes hnl
    rcases Classical.em (allS L = true) with hal | hal
    · have HT : Hid (Calls Try.prog 43 #[.slice A n c] w fun e w' => e = .returned (.bool true) ∧ Bel w w') := by have := HS1.out; rwa [show allS L = true from hal] at this
      have HR : one n L = 0 := by unfold one; rw [if_pos hnl, if_pos hal]
      rw [HR]
      clear HS1 HR
      go_enter Try.func22, Try.ntmps22
      go_wp2_with fail
      go_at_call 23
      refine (HN.out _).mono ?_
      rintro e w0 ⟨rfl, rfl⟩
      go_wp2_with fail
      go_at_call 43
      refine HT.out.mono ?_
      rintro e w1 ⟨rfl, hb1⟩
      go_wp2
      go_ret
      exact ⟨rfl, hb1⟩
    · have HT : Hid (Calls Try.prog 43 #[.slice A n c] w fun e w' => e = .returned (.bool false) ∧ Bel w w') := by have := HS1.out; rwa [show allS L = false from Bool.eq_false_iff.2 hal] at this
      have HR : one n L = 12 := by unfold one; rw [if_pos hnl, if_neg hal]
      rw [HR]
      clear HS1 HR
      go_enter Try.func22, Try.ntmps22
      go_wp2_with fail
      go_at_call 23
      refine (HN.out _).mono ?_
      rintro e w0 ⟨rfl, rfl⟩
      go_wp2_with fail
      go_at_call 43
      refine HT.out.mono ?_
      rintro e w1 ⟨rfl, hb1⟩
      go_wp2
      go_ret
      exact ⟨rfl, hb1⟩
  · have HR : one n L = 8 := by unfold one; rw [if_neg hnl]
    rw [HR]
    clear HR HS1
    have HN : Hid (∀ W, Calls Try.prog 23 #[.int .i64 (n : Int)] W fun e w' => e = .returned (.bool false) ∧ W = w') := len_no hn hnl
    go_enter Try.func22, Try.ntmps22
    go_wp2_with fail
    go_at_call 23
    refine (HN.out _).mono ?_
    rintro e w0 ⟨rfl, rfl⟩
    go_wp2
    go_ret
    exact ⟨rfl, Bel.rf⟩
set_option maxHeartbeats 4000000 in
theorem rwindow_any (A : Option Addr) (c n : Nat) (L : List Int) (hn : n ≤ 100000000) (w : World) (h1 : Zi w A n L) :
    Calls Try.prog 26 #[.slice A n c] w fun e w' => e = .returned (.int .i64 (one n L)) ∧ Bel w w' := by
  have HS1 := Lib.hid (rsamples_any A c n L hn w h1)
  clear h1
  rcases Classical.em (lenOk n) with hnl | hnl
  · have n1 : 2 ≤ (n : Int) := by have := hnl.1; omega
    have n2 : (n : Int) ≤ 32 := by have := hnl.2; omega
    have n3 : decide ((n : Int) < 2) = false := decide_eq_false (by omega)
    have n4 : decide (32 < (n : Int)) = false := decide_eq_false (by omega)
    have n5 : ¬ (n : Int) < 2 := by omega
    have n6 : ¬ 32 < (n : Int) := by omega
    have HN : Hid (∀ W, Calls Try.prog 23 #[.int .i64 (n : Int)] W fun e w' => e = .returned (.bool true) ∧ W = w') := len_yes hnl
    rcases Classical.em (allS L = true) with hal | hal
    · have HT : Hid (Calls Try.prog 46 #[.slice A n c] w fun e w' => e = .returned (.int .i64 0) ∧ Bel w w') := by have := HS1.out; rwa [if_pos (show allS L = true from hal)] at this
      have HR : one n L = 0 := by unfold one; rw [if_pos hnl, if_pos hal]
      rw [HR]
      clear HS1 HR
      go_enter Try.func26, Try.ntmps26
      go_wp2_with fail
      go_at_call 46
      refine HT.out.mono ?_
      rintro e w1 ⟨rfl, hb1⟩
      go_wp2
      go_ret
      exact ⟨rfl, hb1⟩
    · have HT : Hid (Calls Try.prog 46 #[.slice A n c] w fun e w' => e = .returned (.int .i64 12) ∧ Bel w w') := by have := HS1.out; rwa [if_neg (show ¬ allS L = true from hal)] at this
      have HR : one n L = 12 := by unfold one; rw [if_pos hnl, if_neg hal]
      rw [HR]
      clear HS1 HR
      go_enter Try.func26, Try.ntmps26
      go_wp2_with fail
      go_at_call 46
      refine HT.out.mono ?_
      rintro e w1 ⟨rfl, hb1⟩
      go_wp2
      go_ret
      exact ⟨rfl, hb1⟩
  · have HR : one n L = 8 := by unfold one; rw [if_neg hnl]
    rw [HR]
    clear HR HS1
    rcases (by unfold lenOk at hnl; omega : n < 2 ∨ (2 ≤ n ∧ 32 < n)) with g | ⟨g1, g2⟩
    · have p1 : (n : Int) < 2 := by omega
      have p2 : decide ((n : Int) < 2) = true := decide_eq_true p1
      go_enter Try.func26, Try.ntmps26
      go_wp2
      go_ret
      exact ⟨rfl, Bel.rf⟩
    · have p1 : ¬ (n : Int) < 2 := by omega
      have p2 : decide ((n : Int) < 2) = false := decide_eq_false p1
      have p3 : 32 < (n : Int) := by omega
      have p4 : decide (32 < (n : Int)) = true := decide_eq_true p3
      go_enter Try.func26, Try.ntmps26
      go_wp2
      go_ret
      exact ⟨rfl, Bel.rf⟩
end Go.Proofs.Ytkonknkoggfeaaa.Say
namespace Go.Proofs.Ytkonknkoggfeaaa.Say
open Go.ChangeShapes Go.WideShapes Go.RowKit Wo Sr Wi
set_option linter.unusedVariables false
end Go.Proofs.Ytkonknkoggfeaaa.Say
namespace Go.Proofs.Ytkonknkoggfeaaa.Say
open Go.ChangeShapes Go.WideShapes Go.RowKit Wo Sr Wi
set_option linter.unusedVariables false
theorem results_rt {fn : Func} {p u : Tmp} (h : fn.results = #[.cell p 39, .tmp u]) (tmps : Array Value) (w : World) (g : Nat) (a b : Value)
    (hp : tmps.getD p undef = .pointer (some ⟨g, 0, none⟩)) (hg : Bk w g 39 #[a, b]) :
    (results fn tmps).run Try.prog w = .ok (.tuple #[.agg #[a, b], tmps.getD u undef]) w := by
  have hp' : tmps[p]?.getD undef = .pointer (some ⟨g, 0, none⟩) := by simpa using hp
  have hl := run_loadVar_row (P := Try.prog) w g 39 39 #[a, b] (0, 0) _ hg Try.underlying39 rfl (by kernel_rfl)
  simp [results, h, hp', asAddr, hl]
end Go.Proofs.Ytkonknkoggfeaaa.Say
namespace Go.Proofs.Ytkonknkoggfeaaa.Eu
open Go.ChangeShapes Go.WideShapes Go.RowKit Wo Sr Wi Ra
set_option linter.unusedVariables false
end Go.Proofs.Ytkonknkoggfeaaa.Eu
namespace Go.Proofs.Ytkonknkoggfeaaa.Eu
open Go.ChangeShapes Go.WideShapes Go.RowKit Wo Sr Wi Ra
set_option linter.unusedVariables false
theorem su_le (D : List Int) : ∀ k, su sq (D.take k) ≤ su sq D := by
  induction D with
  | nil => intro k; rw [List.take_nil]; exact Int.le_refl _
  | cons x D ih =>
    intro k
    cases k with
    | zero => exact susq_nn (x :: D)
    | succ k =>
      have h := ih k
      show sq x + su sq (D.take k) ≤ sq x + su sq D
      omega
end Go.Proofs.Ytkonknkoggfeaaa.Eu
namespace Go.Proofs.Ytkonknkoggfeaaa.Say
open Go.ChangeShapes Go.WideShapes Go.RowKit Wo Sr Wi Ra Eu
set_option linter.unusedVariables false
theorem sam_all {L : List Int} (h : Sam L) : allS L = true := by
  unfold allS
  rw [List.all_eq_true]
  intro x hx
  obtain ⟨a, b⟩ := h x hx
  unfold isS
  rw [decide_eq_true a, decide_eq_true b]; rfl
theorem all_sam {L : List Int} (h : allS L = true) : Sam L := by
  unfold allS at h
  rw [List.all_eq_true] at h
  intro x hx
  have := h x hx
  unfold isS at this
  rw [Bool.and_eq_true] at this
  exact ⟨of_decide_eq_true this.1, of_decide_eq_true this.2⟩
theorem two_yes {n m : Nat} {L M : List Int} {b : Nat} (h : two n m L M b = 0) : lenOk n ∧ lenOk m ∧ Sam L ∧ Sam M ∧ n ≤ m + b ∧ m ≤ n + b := by
  unfold two at h
  split at h
  · rename_i h1
    split at h
    · rename_i h2
      split at h
      · rename_i h3
        exact ⟨h1.1, h1.2, all_sam h2.1, all_sam h2.2, h3.1, h3.2⟩
      · cases h
    · cases h
  · cases h
theorem two_zero {n : Nat} {L M : List Int} (hn : lenOk n) (hs : Sam L) (ht : Sam M) : two n n L M 0 = 0 := by
  unfold two
  rw [if_pos ⟨hn, hn⟩, if_pos ⟨sam_all hs, sam_all ht⟩, if_pos ⟨by omega, by omega⟩]
end Go.Proofs.Ytkonknkoggfeaaa.Say
