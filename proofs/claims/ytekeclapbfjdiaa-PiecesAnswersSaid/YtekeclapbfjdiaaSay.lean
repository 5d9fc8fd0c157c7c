/- limits.Samples, Window, Windows and the reference's Samples, Window, Two: for any lists. -/
import Derived.Test.YtekeclapbfjdiaaZi
import Derived.Deep.CutBlock
namespace Go.Proofs.Ytekeclapbfjdiaa.Say
open Go.ChangeShapes Go.WideShapes Go.RowKit Wo Sr Wi
set_option linter.unusedVariables false
def isS (x : Int) : Bool := decide (-1000 ≤ x) && decide (x ≤ 1000)
def allS (L : List Int) : Bool := L.all isS
theorem allS_no {L : List Int} {k n : Nat} (hL : L.length = n) (hk : k < n) (h : isS (L.getD k 0) = false) : allS L = false := by
  unfold allS
  rw [List.all_eq_false]
  refine ⟨L.getD k 0, ?_, by rw [h]; decide⟩
  rw [List.getD_eq_getElem?_getD, List.getElem?_eq_getElem (by omega)]
  exact List.getElem_mem _
theorem allS_yes {L : List Int} {n : Nat} (hL : L.length = n) (h : ∀ j, j < n → isS (L.getD j 0) = true) : allS L = true := by
  unfold allS
  rw [List.all_eq_true]
  intro x hx
  obtain ⟨i, hi, rfl⟩ := List.mem_iff_getElem.1 hx
  have := h i (by omega)
  rwa [List.getD_eq_getElem?_getD, List.getElem?_eq_getElem hi] at this
theorem sample_any (n : Int) (w : World) : Calls Try.prog 65 #[.int .i64 n] w fun e w' => e = .returned (.bool (isS n)) ∧ w = w' := by
  rcases (by omega : n < -1000 ∨ (-1000 ≤ n ∧ n ≤ 1000) ∨ 1000 < n) with h | ⟨h1, h2⟩ | h
  · have e1 : isS n = false := by unfold isS; rw [decide_eq_false (by omega)]; rfl
    rw [e1]
    have e2 : ¬ -1000 ≤ n := by omega
    have e3 : decide (-1000 ≤ n) = false := decide_eq_false e2
    go_enter Try.func65, Try.ntmps65
    go_wp2
    go_ret
    exact ⟨rfl, rfl⟩
  · have e1 : isS n = true := by unfold isS; rw [decide_eq_true h1, decide_eq_true h2]; rfl
    rw [e1]
    have e3 : decide (-1000 ≤ n) = true := decide_eq_true h1
    have e4 : decide (n ≤ 1000) = true := decide_eq_true h2
    go_enter Try.func65, Try.ntmps65
    go_wp2
    go_ret
    exact ⟨rfl, rfl⟩
  · have e1 : isS n = false := by unfold isS; rw [decide_eq_true (by omega), decide_eq_false (by omega)]; rfl
    rw [e1]
    have e5 : -1000 ≤ n := by omega
    have e3 : decide (-1000 ≤ n) = true := decide_eq_true e5
    have e6 : ¬ n ≤ 1000 := by omega
    have e4 : decide (n ≤ 1000) = false := decide_eq_false e6
    go_enter Try.func65, Try.ntmps65
    go_wp2
    go_ret
    exact ⟨rfl, rfl⟩
theorem rsample_any (n : Int) (w : World) : Calls Try.prog 68 #[.int .i64 n] w fun e w' => e = .returned (.bool (isS n)) ∧ w = w' := by
  rcases (by omega : n < -1000 ∨ (-1000 ≤ n ∧ n ≤ 1000) ∨ 1000 < n) with h | ⟨h1, h2⟩ | h
  · have e1 : isS n = false := by unfold isS; rw [decide_eq_false (by omega)]; rfl
    rw [e1]
    have e2 : ¬ -1000 ≤ n := by omega
    have e3 : decide (-1000 ≤ n) = false := decide_eq_false e2
    go_enter Try.func68, Try.ntmps68
    go_wp2
    go_ret
    exact ⟨rfl, rfl⟩
  · have e1 : isS n = true := by unfold isS; rw [decide_eq_true h1, decide_eq_true h2]; rfl
    rw [e1]
    have e3 : decide (-1000 ≤ n) = true := decide_eq_true h1
    have e4 : decide (n ≤ 1000) = true := decide_eq_true h2
    go_enter Try.func68, Try.ntmps68
    go_wp2
    go_ret
    exact ⟨rfl, rfl⟩
  · have e1 : isS n = false := by unfold isS; rw [decide_eq_true (by omega), decide_eq_false (by omega)]; rfl
    rw [e1]
    have e5 : -1000 ≤ n := by omega
    have e3 : decide (-1000 ≤ n) = true := decide_eq_true e5
    have e6 : ¬ n ≤ 1000 := by omega
    have e4 : decide (n ≤ 1000) = false := decide_eq_false e6
    go_enter Try.func68, Try.ntmps68
    go_wp2
    go_ret
    exact ⟨rfl, rfl⟩
set_option maxHeartbeats 4000000 in
theorem samples_any (A : Option Addr) (c n : Nat) (L : List Int) (hn : n ≤ 100000000) (w : World) (h : Zi w A n L) :
    Calls Try.prog 46 #[.slice A n c] w fun e w' => e = .returned (.bool (allS L)) ∧ Bel w w' := by
  have H1 := Lib.hid h
  have HL := Lib.hid h.1
  have ni : (n : Int) ≤ 100000000 := by omega
  clear h
  go_enter Try.func46, Try.ntmps46
  go_wp2
  go_loopw [7] (fun s7 wr => ∃ (k : Nat) (V : World), V = wr ∧ k ≤ n ∧ s7 = .int .i64 (k : Int) ∧ (∀ j, j < k → isS (L.getD j 0) = true) ∧ Bel w wr) (fun s7 _ => n - (intOf s7).toNat)
  case atStart => exact ⟨0, _, rfl, by omega, rfl, (fun j hj => by omega), Bel.rf⟩
  case round =>
    obtain ⟨k, wr, hwr, hk, rfl, hall, hb⟩ := hrel
    subst hwr
    have HB := Lib.hid hb
    have HA := Lib.hid hall
    clear hall
    rcases Nat.lt_or_ge k n with hlt | hge
    · obtain ⟨ad, rfl, hab, hac⟩ := (H1.out.bel hb).2 (by omega)
      have c1 := hac k hlt
      obtain ⟨x, hxe⟩ : ∃ x, L.getD k 0 = x := ⟨_, rfl⟩
      rw [hxe] at c1
      have ki : (k : Int) < (n : Int) := by omega
      rcases hb1 : isS x with _ | _
      · have HNO : Hid (allS L = false) := allS_no HL.out hlt (by rw [hxe]; exact hb1)
        clear hb hac hab hxe
        have HSX : Hid (∀ W, Calls Try.prog 65 #[.int .i64 x] W fun e w' => e = .returned (.bool false) ∧ W = w') := fun W => by rw [← hb1]; exact sample_any x W
        clear hb1
        go_wp2_with (go_at_call 65; refine (HSX.out _).mono ?_; rintro e w' ⟨rfl, rfl⟩)
        go_ret
        exact ⟨by rw [HNO.out]; rfl, by first | exact HB.out | exact HB.out.drwN _ | exact HB.out.drw⟩
      · have HA2 : Hid (∀ j, j < k + 1 → isS (L.getD j 0) = true) := fun j hj => by
          rcases Nat.lt_or_ge j k with h | h
          · exact HA.out j h
          · obtain rfl : j = k := by omega
            rw [hxe]; exact hb1
        clear hb hac hab hxe
        have HSX : Hid (∀ W, Calls Try.prog 65 #[.int .i64 x] W fun e w' => e = .returned (.bool true) ∧ W = w') := fun W => by rw [← hb1]; exact sample_any x W
        clear hb1
        go_wp2_with (go_at_call 65; refine (HSX.out _).mono ?_; rintro e w' ⟨rfl, rfl⟩)
        go_roundw
        case rel => exact ⟨k + 1, _, rfl, by omega, by go_num, HA2.out, by first | exact HB.out | exact HB.out.drwN _ | exact HB.out.drw⟩
        case measure => simp [intOf]; omega
    · obtain rfl : k = n := by omega
      have HY : Hid (allS L = true) := allS_yes HL.out HA.out
      clear hb
      go_wp2
      go_ret
      exact ⟨by rw [HY.out]; rfl, HB.out⟩
set_option maxHeartbeats 4000000 in
theorem rsamples_any (A : Option Addr) (c n : Nat) (L : List Int) (hn : n ≤ 100000000) (w : World) (h : Zi w A n L) :
    Calls Try.prog 60 #[.slice A n c] w fun e w' => e = .returned (.int .i64 (if allS L = true then 0 else 12)) ∧ Bel w w' := by
  have H1 := Lib.hid h
  have HL := Lib.hid h.1
  have ni : (n : Int) ≤ 100000000 := by omega
  obtain ⟨R, hR⟩ : ∃ R : Int, (if allS L = true then (0 : Int) else 12) = R := ⟨_, rfl⟩
  rw [hR]
  have HR := Lib.hid hR
  clear h hR
  go_enter Try.func60, Try.ntmps60
  go_wp2
  go_loopw [6] (fun s7 wr => ∃ (k : Nat) (V : World), V = wr ∧ k ≤ n ∧ s7 = .int .i64 (k : Int) ∧ (∀ j, j < k → isS (L.getD j 0) = true) ∧ Bel w wr) (fun s7 _ => n - (intOf s7).toNat)
  case atStart => exact ⟨0, _, rfl, by omega, rfl, (fun j hj => by omega), Bel.rf⟩
  case round =>
    obtain ⟨k, wr, hwr, hk, rfl, hall, hb⟩ := hrel
    subst hwr
    have HB := Lib.hid hb
    have HA := Lib.hid hall
    clear hall
    rcases Nat.lt_or_ge k n with hlt | hge
    · obtain ⟨ad, rfl, hab, hac⟩ := (H1.out.bel hb).2 (by omega)
      have c1 := hac k hlt
      obtain ⟨x, hxe⟩ : ∃ x, L.getD k 0 = x := ⟨_, rfl⟩
      rw [hxe] at c1
      have ki : (k : Int) < (n : Int) := by omega
      rcases hb1 : isS x with _ | _
      · have HNO : Hid (allS L = false) := allS_no HL.out hlt (by rw [hxe]; exact hb1)
        clear hb hac hab hxe
        have HSX : Hid (∀ W, Calls Try.prog 68 #[.int .i64 x] W fun e w' => e = .returned (.bool false) ∧ W = w') := fun W => by rw [← hb1]; exact rsample_any x W
        clear hb1
        go_wp2_with (go_at_call 68; refine (HSX.out _).mono ?_; rintro e w' ⟨rfl, rfl⟩)
        go_ret
        exact ⟨by have e := HR.out; rw [HNO.out] at e; rw [← e]; rfl, by first | exact HB.out | exact HB.out.drwN _ | exact HB.out.drw⟩
      · have HA2 : Hid (∀ j, j < k + 1 → isS (L.getD j 0) = true) := fun j hj => by
          rcases Nat.lt_or_ge j k with h | h
          · exact HA.out j h
          · obtain rfl : j = k := by omega
            rw [hxe]; exact hb1
        clear hb hac hab hxe
        have HSX : Hid (∀ W, Calls Try.prog 68 #[.int .i64 x] W fun e w' => e = .returned (.bool true) ∧ W = w') := fun W => by rw [← hb1]; exact rsample_any x W
        clear hb1
        go_wp2_with (go_at_call 68; refine (HSX.out _).mono ?_; rintro e w' ⟨rfl, rfl⟩)
        go_roundw
        case rel => exact ⟨k + 1, _, rfl, by omega, by go_num, HA2.out, by first | exact HB.out | exact HB.out.drwN _ | exact HB.out.drw⟩
        case measure => simp [intOf]; omega
    · obtain rfl : k = n := by omega
      have HY : Hid (allS L = true) := allS_yes HL.out HA.out
      clear hb
      go_wp2
      go_ret
      exact ⟨by have e := HR.out; rw [HY.out] at e; rw [← e]; rfl, HB.out⟩
/-- a length that a window can have -/
def lenOk (n : Nat) : Prop := 2 ≤ n ∧ n ≤ 32
theorem length_any (n : Nat) (hn : n ≤ 100000000) (w : World) : Calls Try.prog 57 #[.int .i64 (n : Int)] w fun e w' => ((e = .returned (.bool true) ∧ lenOk n) ∨ (e = .returned (.bool false) ∧ ¬ lenOk n)) ∧ w = w' := by
  rcases (by omega : n < 2 ∨ (2 ≤ n ∧ n ≤ 32) ∨ 32 < n) with h | ⟨h1, h2⟩ | h
  · have e2 : ¬ 2 ≤ (n : Int) := by omega
    have e3 : decide (2 ≤ (n : Int)) = false := decide_eq_false e2
    have hno : ¬ lenOk n := fun ⟨a, b⟩ => by omega
    go_enter Try.func57, Try.ntmps57
    go_wp2
    go_ret
    first | exact ⟨rfl, rfl⟩ | exact ⟨.inr ⟨rfl, hno⟩, rfl⟩
  · have e5 : 2 ≤ (n : Int) := by omega
    have e3 : decide (2 ≤ (n : Int)) = true := decide_eq_true e5
    have e6 : (n : Int) ≤ 32 := by omega
    have e4 : decide ((n : Int) ≤ 32) = true := decide_eq_true e6
    have hyes : lenOk n := ⟨h1, h2⟩
    go_enter Try.func57, Try.ntmps57
    go_wp2
    go_ret
    first | exact ⟨rfl, rfl⟩ | exact ⟨.inl ⟨rfl, hyes⟩, rfl⟩
  · have e5 : 2 ≤ (n : Int) := by omega
    have e3 : decide (2 ≤ (n : Int)) = true := decide_eq_true e5
    have e6 : ¬ (n : Int) ≤ 32 := by omega
    have e4 : decide ((n : Int) ≤ 32) = false := decide_eq_false e6
    have hno : ¬ lenOk n := fun ⟨a, b⟩ => by omega
    go_enter Try.func57, Try.ntmps57
    go_wp2
    go_ret
    first | exact ⟨rfl, rfl⟩ | exact ⟨.inr ⟨rfl, hno⟩, rfl⟩
end Go.Proofs.Ytekeclapbfjdiaa.Say
