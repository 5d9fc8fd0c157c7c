/- Rows of intervals, the excess, sketch.Region, the scheme of the law: one text out of five. -/
import Derived.Test.YtgdhgeongdenpaaSkL
import Derived.Test.YtgdhgeongdenpaaWd5
import Derived.Test.YtgdhgeongdenpaaRegB
import Derived.Test.YtgdhgeongdenpaaWd7
namespace Go.Proofs.Ytgdhgeongdenpaa.Sk
open Go.ChangeShapes Go.WideShapes Go.RowKit Wo Sr Wi Nr Pc Eu Ra
open Wd (Rp rs rs_at rs_cons)
set_option linter.unusedVariables false
set_option linter.unusedSimpArgs false
/-- a row of intervals -/
def Zv (w : World) (h n : Nat) (L : List Rp) : Prop := L.length = n ∧ ∀ p, p < n → w.cell? ⟨h, p * 2, none⟩ = some (.int .i64 (L.getD p (0, 0)).1) ∧ w.cell? ⟨h, p * 2 + 1, none⟩ = some (.int .i64 (L.getD p (0, 0)).2)
theorem Zv.bel {w w' : World} {h n : Nat} {L : List Rp} (z : Zv w h n L) (hb : Bel w w') : Zv w' h n L := ⟨z.1, fun p hp => ⟨hb.kp (z.2 p hp).1, hb.kp (z.2 p hp).2⟩⟩
/-- an interval that does not hold 0 -/
def offz (L : List Rp) (p : Nat) : Prop := 0 < (L.getD p (0, 0)).1 ∨ (L.getD p (0, 0)).2 < 0
instance (L : List Rp) (p : Nat) : Decidable (offz L p) := by unfold offz; exact inferInstance
/-- whether one of them does not hold 0 -/
def anyo (L : List Rp) (n : Nat) : Prop := ∃ p, p < n ∧ offz L p
instance (L : List Rp) (n : Nat) : Decidable (anyo L n) := by unfold anyo; exact inferInstance
set_option maxHeartbeats 8000000 in
set_option maxRecDepth 100000 in
theorem beyond_ok (h c n : Nat) (L : List Rp) (n8 : n ≤ 8) (hL : ∀ p, p < n → (-2000 ≤ (L.getD p (0, 0)).1 ∧ (L.getD p (0, 0)).1 ≤ 2000) ∧ -2000 ≤ (L.getD p (0, 0)).2 ∧ (L.getD p (0, 0)).2 ≤ 2000) (w : World) (hz : Zv w h n L) :
    Calls Try.prog 100 #[.slice (some ⟨h, 0, none⟩) n c, .func (.func 64) #[] #[]] w fun e w' => e = .returned (.int .i64 (-1)) ∧ Bel w w' := by
  have HZ := Lib.hid hz
  have HL := Lib.hid hL
  have ni : (n : Int) ≤ 8 := by omega
  have HF : Hid (∀ (a b : Int) (W : World), (-2000 ≤ a ∧ a ≤ 2000) ∧ -2000 ≤ b ∧ b ≤ 2000 → Calls Try.prog 64 #[.agg #[.int .i64 a, .int .i64 b]] W fun e w' => e = .returned (.bool false) ∧ Bel W w') := fun a b W hab => by
    have q1 : ¬ a < -1099511627776 := by omega
    have q2 : ¬ 1099511627776 < a := by omega
    have q3 : ¬ b < -1099511627776 := by omega
    have q4 : ¬ 1099511627776 < b := by omega
    have r1 : decide (a < -1099511627776) = false := decide_eq_false q1
    have r2 : decide (a > 1099511627776) = false := decide_eq_false q2
    have r3 : decide (b < -1099511627776) = false := decide_eq_false q3
    have r4 : decide (b > 1099511627776) = false := decide_eq_false q4
    go_enter Try.func64, Try.ntmps64
    go_wp2
    go_ret
    exact ⟨rfl, (by repeat (first | exact Bel.rf | (with_reducible refine Bel.drwN ?_ _) | (with_reducible refine Bel.drw ?_) | (with_reducible refine Bel.al ?_ _)))⟩
  clear hz hL
  go_enter Try.func100, Try.ntmps100
  go_wp2
  go_loopw [8] (fun s8 wr => ∃ (i : Nat) (V : World), V = wr ∧ i ≤ n ∧ s8 = .int .i64 (i : Int) ∧ Bel w wr) (fun s8 _ => n - (intOf s8).toNat)
  case atStart => exact ⟨0, _, rfl, by omega, rfl, (by repeat (first | exact Bel.rf | (with_reducible refine Bel.drwN ?_ _) | (with_reducible refine Bel.drw ?_) | (with_reducible refine Bel.al ?_ _)))⟩
  case round =>
    obtain ⟨i, wr, hwr, hi, rfl, hb⟩ := hrel
    subst hwr
    have HB := Lib.hid hb
    rcases Nat.lt_or_ge i n with hlt | hge
    · obtain ⟨c1, c2⟩ := (HZ.out.bel hb).2 i hlt
      have hab := HL.out i hlt
      obtain ⟨x, hx⟩ : ∃ x, L.getD i (0, 0) = x := ⟨_, rfl⟩
      rw [hx] at c1 c2 hab
      obtain ⟨x1, x2⟩ := x
      dsimp only at c1 c2 hab
      have HAB := Lib.hid hab
      have ii : (i : Int) < (n : Int) := by omega
      have i0 : (0 : Int) ≤ (i : Int) := by omega
      clear hb hx hab
      go_wp2_with (go_at_call 64; refine (HF.out x1 x2 _ HAB.out).mono ?_; rintro e w1 ⟨rfl, hb1⟩; have HB1 : Hid (Bel w w1) := HB.out.tr (Bel.tr (by repeat (first | exact Bel.rf | (with_reducible refine Bel.drwN ?_ _) | (with_reducible refine Bel.drw ?_) | (with_reducible refine Bel.al ?_ _))) hb1); clear hb1)
      go_roundw
      case rel => exact ⟨i + 1, _, rfl, by omega, by go_num, (by repeat (first | exact HB1.out | (with_reducible refine Bel.drwN ?_ _) | (with_reducible refine Bel.drw ?_) | (with_reducible refine Bel.al ?_ _)))⟩
      case measure => simp [intOf]; omega
    · obtain rfl : i = n := by omega
      clear hb
      go_wp2
      go_ret
      exact ⟨rfl, (by repeat (first | exact HB.out | (with_reducible refine Bel.drwN ?_ _) | (with_reducible refine Bel.drw ?_) | (with_reducible refine Bel.al ?_ _)))⟩
set_option maxHeartbeats 8000000 in
set_option maxRecDepth 100000 in
theorem cbeyond_ok (h c n : Nat) (L : List Rp) (n8 : n ≤ 8) (hL : ∀ p, p < n → (-2000 ≤ (L.getD p (0, 0)).1 ∧ (L.getD p (0, 0)).1 ≤ 2000) ∧ -2000 ≤ (L.getD p (0, 0)).2 ∧ (L.getD p (0, 0)).2 ≤ 2000) (w : World) (hz : Zv w h n L) :
    Calls Try.prog 63 #[.slice (some ⟨h, 0, none⟩) n c, .func (.func 64) #[] #[]] w fun e w' => e = .returned (.bool false) ∧ Bel w w' := by
  have HI : Hid (∀ W, Bel w W → Calls Try.prog 100 #[.slice (some ⟨h, 0, none⟩) n c, .func (.func 64) #[] #[]] W fun e w' => e = .returned (.int .i64 (-1)) ∧ Bel W w') := fun W hW => beyond_ok h c n L n8 hL W (hz.bel hW)
  clear hz
  go_enter Try.func63, Try.ntmps63
  go_wp2_with (go_at_call 100; refine (HI.out _ (by repeat (first | exact Bel.rf | (with_reducible refine Bel.drwN ?_ _) | (with_reducible refine Bel.drw ?_) | (with_reducible refine Bel.al ?_ _)))).mono ?_; rintro e w1 ⟨rfl, hb1⟩; have HW1 : Hid (Bel w w1) := Bel.tr (by repeat (first | exact Bel.rf | (with_reducible refine Bel.drwN ?_ _) | (with_reducible refine Bel.drw ?_) | (with_reducible refine Bel.al ?_ _))) hb1; clear hb1)
  go_ret
  exact ⟨rfl, (by repeat (first | exact HW1.out | (with_reducible refine Bel.drwN ?_ _) | (with_reducible refine Bel.drw ?_) | (with_reducible refine Bel.al ?_ _)))⟩
set_option maxHeartbeats 8000000 in
set_option maxRecDepth 100000 in
theorem turned_ok (h c n : Nat) (L : List Rp) (n8 : n ≤ 8) (hL : ∀ p, p < n → (L.getD p (0, 0)).1 ≤ (L.getD p (0, 0)).2) (w : World) (hz : Zv w h n L) :
    Calls Try.prog 100 #[.slice (some ⟨h, 0, none⟩) n c, .func (.func 65) #[] #[]] w fun e w' => e = .returned (.int .i64 (-1)) ∧ Bel w w' := by
  have HZ := Lib.hid hz
  have HL := Lib.hid hL
  have ni : (n : Int) ≤ 8 := by omega
  have HF : Hid (∀ (a b : Int) (W : World), a ≤ b → Calls Try.prog 65 #[.agg #[.int .i64 a, .int .i64 b]] W fun e w' => e = .returned (.bool false) ∧ Bel W w') := fun a b W hab => by
    have q1 : ¬ b < a := by omega
    have r1 : decide (a > b) = false := decide_eq_false q1
    go_enter Try.func65, Try.ntmps65
    go_wp2
    go_ret
    exact ⟨rfl, (by repeat (first | exact Bel.rf | (with_reducible refine Bel.drwN ?_ _) | (with_reducible refine Bel.drw ?_) | (with_reducible refine Bel.al ?_ _)))⟩
  clear hz hL
  go_enter Try.func100, Try.ntmps100
  go_wp2
  go_loopw [8] (fun s8 wr => ∃ (i : Nat) (V : World), V = wr ∧ i ≤ n ∧ s8 = .int .i64 (i : Int) ∧ Bel w wr) (fun s8 _ => n - (intOf s8).toNat)
  case atStart => exact ⟨0, _, rfl, by omega, rfl, (by repeat (first | exact Bel.rf | (with_reducible refine Bel.drwN ?_ _) | (with_reducible refine Bel.drw ?_) | (with_reducible refine Bel.al ?_ _)))⟩
  case round =>
    obtain ⟨i, wr, hwr, hi, rfl, hb⟩ := hrel
    subst hwr
    have HB := Lib.hid hb
    rcases Nat.lt_or_ge i n with hlt | hge
    · obtain ⟨c1, c2⟩ := (HZ.out.bel hb).2 i hlt
      have hab := HL.out i hlt
      obtain ⟨x, hx⟩ : ∃ x, L.getD i (0, 0) = x := ⟨_, rfl⟩
      rw [hx] at c1 c2 hab
      obtain ⟨x1, x2⟩ := x
      dsimp only at c1 c2 hab
      have HAB := Lib.hid hab
      have ii : (i : Int) < (n : Int) := by omega
      have i0 : (0 : Int) ≤ (i : Int) := by omega
      clear hb hx hab
      go_wp2_with (go_at_call 65; refine (HF.out x1 x2 _ HAB.out).mono ?_; rintro e w1 ⟨rfl, hb1⟩; have HB1 : Hid (Bel w w1) := HB.out.tr (Bel.tr (by repeat (first | exact Bel.rf | (with_reducible refine Bel.drwN ?_ _) | (with_reducible refine Bel.drw ?_) | (with_reducible refine Bel.al ?_ _))) hb1); clear hb1)
      go_roundw
      case rel => exact ⟨i + 1, _, rfl, by omega, by go_num, (by repeat (first | exact HB1.out | (with_reducible refine Bel.drwN ?_ _) | (with_reducible refine Bel.drw ?_) | (with_reducible refine Bel.al ?_ _)))⟩
      case measure => simp [intOf]; omega
    · obtain rfl : i = n := by omega
      clear hb
      go_wp2
      go_ret
      exact ⟨rfl, (by repeat (first | exact HB.out | (with_reducible refine Bel.drwN ?_ _) | (with_reducible refine Bel.drw ?_) | (with_reducible refine Bel.al ?_ _)))⟩
set_option maxHeartbeats 8000000 in
set_option maxRecDepth 100000 in
theorem cturned_ok (h c n : Nat) (L : List Rp) (n8 : n ≤ 8) (hL : ∀ p, p < n → (L.getD p (0, 0)).1 ≤ (L.getD p (0, 0)).2) (w : World) (hz : Zv w h n L) :
    Calls Try.prog 63 #[.slice (some ⟨h, 0, none⟩) n c, .func (.func 65) #[] #[]] w fun e w' => e = .returned (.bool false) ∧ Bel w w' := by
  have HI : Hid (∀ W, Bel w W → Calls Try.prog 100 #[.slice (some ⟨h, 0, none⟩) n c, .func (.func 65) #[] #[]] W fun e w' => e = .returned (.int .i64 (-1)) ∧ Bel W w') := fun W hW => turned_ok h c n L n8 hL W (hz.bel hW)
  clear hz
  go_enter Try.func63, Try.ntmps63
  go_wp2_with (go_at_call 100; refine (HI.out _ (by repeat (first | exact Bel.rf | (with_reducible refine Bel.drwN ?_ _) | (with_reducible refine Bel.drw ?_) | (with_reducible refine Bel.al ?_ _)))).mono ?_; rintro e w1 ⟨rfl, hb1⟩; have HW1 : Hid (Bel w w1) := Bel.tr (by repeat (first | exact Bel.rf | (with_reducible refine Bel.drwN ?_ _) | (with_reducible refine Bel.drw ?_) | (with_reducible refine Bel.al ?_ _))) hb1; clear hb1)
  go_ret
  exact ⟨rfl, (by repeat (first | exact HW1.out | (with_reducible refine Bel.drwN ?_ _) | (with_reducible refine Bel.drw ?_) | (with_reducible refine Bel.al ?_ _)))⟩
set_option maxHeartbeats 8000000 in
set_option maxRecDepth 100000 in
theorem offz_ok (a b : Int) (W : World) : Calls Try.prog 67 #[.agg #[.int .i64 a, .int .i64 b]] W fun e w' => e = .returned (.bool (decide (0 < a ∨ b < 0))) ∧ Bel W w' := by
  rcases Int.lt_or_le 0 a with h | h
  · have HD : Hid (decide (0 < a ∨ b < 0) = true) := decide_eq_true (.inl h)
    have r1 : decide (a > 0) = true := decide_eq_true h
    go_enter Try.func67, Try.ntmps67
    go_wp2
    go_ret
    exact ⟨congrArg (fun z => Ending.returned (.bool z)) HD.out.symm, (by repeat (first | exact Bel.rf | (with_reducible refine Bel.drwN ?_ _) | (with_reducible refine Bel.drw ?_) | (with_reducible refine Bel.al ?_ _)))⟩
  · have h' : ¬ 0 < a := by omega
    have HD : Hid (decide (0 < a ∨ b < 0) = decide (b < 0)) := by show _ = _; simp [h']
    have r1 : decide (a > 0) = false := decide_eq_false h'
    go_enter Try.func67, Try.ntmps67
    go_wp2
    go_ret
    exact ⟨by first | rfl | exact congrArg (fun z => Ending.returned (.bool z)) HD.out.symm, (by repeat (first | exact Bel.rf | (with_reducible refine Bel.drwN ?_ _) | (with_reducible refine Bel.drw ?_) | (with_reducible refine Bel.al ?_ _)))⟩
set_option maxHeartbeats 8000000 in
set_option maxRecDepth 100000 in
theorem outi_ok (h c n : Nat) (L : List Rp) (n8 : n ≤ 8) (w : World) (hz : Zv w h n L) :
    Calls Try.prog 100 #[.slice (some ⟨h, 0, none⟩) n c, .func (.func 67) #[] #[]] w fun e w' => (∃ k : Int, e = .returned (.int .i64 k) ∧ -1 ≤ k ∧ (0 ≤ k ↔ anyo L n)) ∧ Bel w w' := by
  have HZ := Lib.hid hz
  have ni : (n : Int) ≤ 8 := by omega
  clear hz
  go_enter Try.func100, Try.ntmps100
  go_wp2
  go_loopw [8] (fun s8 wr => ∃ (i : Nat) (V : World), V = wr ∧ i ≤ n ∧ s8 = .int .i64 (i : Int) ∧ (∀ j, j < i → ¬ offz L j) ∧ Bel w wr) (fun s8 _ => n - (intOf s8).toNat)
  case atStart => exact ⟨0, _, rfl, by omega, rfl, fun j hj => by omega, (by repeat (first | exact Bel.rf | (with_reducible refine Bel.drwN ?_ _) | (with_reducible refine Bel.drw ?_) | (with_reducible refine Bel.al ?_ _)))⟩
  case round =>
    obtain ⟨i, wr, hwr, hi, rfl, hp, hb⟩ := hrel
    subst hwr
    have HB := Lib.hid hb
    have HP := Lib.hid hp
    clear hp
    rcases Nat.lt_or_ge i n with hlt | hge
    · obtain ⟨c1, c2⟩ := (HZ.out.bel hb).2 i hlt
      obtain ⟨bb, hbb⟩ : ∃ z, decide (offz L i) = z := ⟨_, rfl⟩
      have HBB := Lib.hid hbb
      have HC : Hid (∀ W, Calls Try.prog 67 #[.agg #[.int .i64 (L.getD i (0, 0)).1, .int .i64 (L.getD i (0, 0)).2]] W fun e w' => e = .returned (.bool bb) ∧ Bel W w') := fun W => by
        have := offz_ok (L.getD i (0, 0)).1 (L.getD i (0, 0)).2 W
        unfold offz at hbb
        rw [hbb] at this
        exact this
      obtain ⟨x1, hx1⟩ : ∃ x, (L.getD i (0, 0)).1 = x := ⟨_, rfl⟩
      obtain ⟨x2, hx2⟩ : ∃ x, (L.getD i (0, 0)).2 = x := ⟨_, rfl⟩
      rw [hx1] at c1 HC
      rw [hx2] at c2 HC
      have ii : (i : Int) < (n : Int) := by omega
      have i0 : (0 : Int) ≤ (i : Int) := by omega
      clear hb hbb hx1 hx2
      rcases bb with _ | _
      · go_wp2_with (go_at_call 67; refine (HC.out _).mono ?_; rintro e w1 ⟨rfl, hb1⟩; have HB1 : Hid (Bel w w1) := HB.out.tr (Bel.tr (by repeat (first | exact Bel.rf | (with_reducible refine Bel.drwN ?_ _) | (with_reducible refine Bel.drw ?_) | (with_reducible refine Bel.al ?_ _))) hb1); clear hb1)
        go_roundw
        case rel => exact ⟨i + 1, _, rfl, by omega, by go_num, fun j hj => by
          rcases Nat.lt_or_ge j i with q | q
          · exact HP.out j q
          · obtain rfl : j = i := by omega
            exact of_decide_eq_false HBB.out, (by repeat (first | exact HB1.out | (with_reducible refine Bel.drwN ?_ _) | (with_reducible refine Bel.drw ?_) | (with_reducible refine Bel.al ?_ _)))⟩
        case measure => simp [intOf]; omega
      · go_wp2_with (go_at_call 67; refine (HC.out _).mono ?_; rintro e w1 ⟨rfl, hb1⟩; have HB1 : Hid (Bel w w1) := HB.out.tr (Bel.tr (by repeat (first | exact Bel.rf | (with_reducible refine Bel.drwN ?_ _) | (with_reducible refine Bel.drw ?_) | (with_reducible refine Bel.al ?_ _))) hb1); clear hb1)
        go_ret
        exact ⟨⟨_, rfl, by omega, fun _ => ⟨i, hlt, of_decide_eq_true HBB.out⟩, fun _ => by omega⟩, (by repeat (first | exact HB1.out | (with_reducible refine Bel.drwN ?_ _) | (with_reducible refine Bel.drw ?_) | (with_reducible refine Bel.al ?_ _)))⟩
    · obtain rfl : i = n := by omega
      clear hb
      go_wp2
      go_ret
      exact ⟨⟨_, rfl, by omega, fun h => absurd h (by decide), fun ⟨p, hp, ho⟩ => absurd ho (HP.out p hp)⟩, (by repeat (first | exact HB.out | (with_reducible refine Bel.drwN ?_ _) | (with_reducible refine Bel.drw ?_) | (with_reducible refine Bel.al ?_ _)))⟩
set_option maxHeartbeats 8000000 in
set_option maxRecDepth 100000 in
theorem outc_ok (h c n : Nat) (L : List Rp) (n8 : n ≤ 8) (w : World) (hz : Zv w h n L) :
    Calls Try.prog 63 #[.slice (some ⟨h, 0, none⟩) n c, .func (.func 67) #[] #[]] w fun e w' => e = .returned (.bool (decide (anyo L n))) ∧ Bel w w' := by
  have HI : Hid (∀ W, Bel w W → Calls Try.prog 100 #[.slice (some ⟨h, 0, none⟩) n c, .func (.func 67) #[] #[]] W fun e w' => (∃ k : Int, e = .returned (.int .i64 k) ∧ -1 ≤ k ∧ (0 ≤ k ↔ anyo L n)) ∧ Bel W w') := fun W hW => outi_ok h c n L n8 W (hz.bel hW)
  clear hz
  go_enter Try.func63, Try.ntmps63
  go_wp2_with fail
  go_at_call 100
  refine (HI.out _ (by repeat (first | exact Bel.rf | (with_reducible refine Bel.drwN ?_ _) | (with_reducible refine Bel.drw ?_) | (with_reducible refine Bel.al ?_ _)))).mono ?_
  rintro e w1 ⟨⟨k, rfl, k1, hk⟩, hb1⟩
  have HW1 : Hid (Bel w w1) := Bel.tr (by repeat (first | exact Bel.rf | (with_reducible refine Bel.drwN ?_ _) | (with_reducible refine Bel.drw ?_) | (with_reducible refine Bel.al ?_ _))) hb1
  have HD : Hid (decide (anyo L n) = decide (k ≥ 0)) := by show _ = _; rw [Bool.eq_iff_iff, decide_eq_true_eq, decide_eq_true_eq]; exact hk.symm
  clear hb1 hk
  go_wp2
  go_ret
  exact ⟨congrArg (fun z => Ending.returned (.bool z)) HD.out.symm, (by repeat (first | exact HW1.out | (with_reducible refine Bel.drwN ?_ _) | (with_reducible refine Bel.drw ?_) | (with_reducible refine Bel.al ?_ _)))⟩
def mnl (L : List Int) : Nat → Int
  | 0 => L.getD 0 0
  | i + 1 => min (mnl L i) (L.getD (i + 1) 0)
set_option maxHeartbeats 8000000 in
set_option maxRecDepth 100000 in
theorem mn_ok (h c n : Nat) (L : List Int) (n1 : 1 ≤ n) (n8 : n ≤ 8) (w : World) (hz : Zi w (some ⟨h, 0, none⟩) n L) :
    Calls Try.prog 104 #[.slice (some ⟨h, 0, none⟩) n c] w fun e w' => e = .returned (.int .i64 (mnl L (n - 1))) ∧ Bel w w' := by
  have HZ := Lib.hid hz
  have ni : (n : Int) ≤ 8 := by omega
  have ni1 : ¬ (n : Int) < 1 := by omega
  have ni2 : decide ((n : Int) < 1) = false := decide_eq_false ni1
  have ni3 : (0 : Int) < (n : Int) := by omega
  have ni4 : 0 < n := by omega
  have ni5 : ¬ n < 1 := by omega
  have c0 := hz.at 0 n1
  have c0' := c0
  obtain ⟨x0, hx0⟩ : ∃ x, L.getD 0 0 = x := ⟨_, rfl⟩
  rw [hx0] at c0 c0'
  clear hz
  go_enter Try.func104, Try.ntmps104
  go_wp2
  go_loopw [4, 3] (fun s4 s3 wr => ∃ (i : Nat) (V : World), V = wr ∧ i + 1 ≤ n ∧ s4 = .int .i64 ((i : Int) + 1) ∧ s3 = .int .i64 (mnl L i) ∧ Bel w wr) (fun s4 _ _ => n - (intOf s4).toNat)
  case atStart => exact ⟨0, _, rfl, by omega, by go_num, by rw [← hx0]; rfl, (by repeat (first | exact Bel.rf | (with_reducible refine Bel.drwN ?_ _) | (with_reducible refine Bel.drw ?_) | (with_reducible refine Bel.al ?_ _)))⟩
  case round =>
    obtain ⟨i, wr, hwr, hi, rfl, rfl, hb⟩ := hrel
    subst hwr
    have HB := Lib.hid hb
    rcases Nat.lt_or_ge (i + 1) n with hlt | hge
    · have c1 := (HZ.out.bel hb).at (i + 1) hlt
      obtain ⟨v, hv⟩ : ∃ v, mnl L i = v := ⟨_, rfl⟩
      obtain ⟨y, hy⟩ : ∃ y, L.getD (i + 1) 0 = y := ⟨_, rfl⟩
      have HN : Hid (mnl L (i + 1) = min v y) := by show _ = _; rw [← hv, ← hy]; rfl
      rw [hy] at c1
      rw [hv]
      have ii : (i : Int) + 1 < (n : Int) := by omega
      have i0 : (0 : Int) ≤ (i : Int) + 1 := by omega
      have ti : ((i : Int) + 1).toNat = i + 1 := by omega
      clear hb hx0 c0 c0' hv hy
      rcases Int.lt_trichotomy v y with g | g | g
      · have HM : Hid (min v y = v) := by show _ = _; omega
        go_wp2
        go_roundw
        case rel => exact ⟨i + 1, _, rfl, by omega, by go_num, congrArg (Value.int .i64) (by rw [HN.out]; omega), (by repeat (first | exact HB.out | (with_reducible refine Bel.drwN ?_ _) | (with_reducible refine Bel.drw ?_) | (with_reducible refine Bel.al ?_ _)))⟩
        case measure => simp [intOf]; omega
      · subst g
        go_wp2
        go_roundw
        case rel => exact ⟨i + 1, _, rfl, by omega, by go_num, congrArg (Value.int .i64) (by rw [HN.out]; omega), (by repeat (first | exact HB.out | (with_reducible refine Bel.drwN ?_ _) | (with_reducible refine Bel.drw ?_) | (with_reducible refine Bel.al ?_ _)))⟩
        case measure => simp [intOf]; omega
      · go_wp2
        go_roundw
        case rel => exact ⟨i + 1, _, rfl, by omega, by go_num, congrArg (Value.int .i64) (by rw [HN.out]; omega), (by repeat (first | exact HB.out | (with_reducible refine Bel.drwN ?_ _) | (with_reducible refine Bel.drw ?_) | (with_reducible refine Bel.al ?_ _)))⟩
        case measure => simp [intOf]; omega
    · have hin : n - 1 = i := by omega
      have HE : Hid (mnl L i = mnl L (n - 1)) := by show _ = _; rw [hin]
      have hi1 : ¬ (i : Int) + 1 < (n : Int) := by omega
      have hi2 : decide ((i : Int) + 1 < (n : Int)) = false := decide_eq_false hi1
      clear hb hin hx0 c0 c0'
      go_wp2
      go_ret
      exact ⟨congrArg (fun z => Ending.returned (.int .i64 z)) HE.out, (by repeat (first | exact HB.out | (with_reducible refine Bel.drwN ?_ _) | (with_reducible refine Bel.drw ?_) | (with_reducible refine Bel.al ?_ _)))⟩
def mxl (L : List Int) : Nat → Int
  | 0 => L.getD 0 0
  | i + 1 => max (mxl L i) (L.getD (i + 1) 0)
set_option maxHeartbeats 8000000 in
set_option maxRecDepth 100000 in
theorem mx_ok (h c n : Nat) (L : List Int) (n1 : 1 ≤ n) (n8 : n ≤ 8) (w : World) (hz : Zi w (some ⟨h, 0, none⟩) n L) :
    Calls Try.prog 105 #[.slice (some ⟨h, 0, none⟩) n c] w fun e w' => e = .returned (.int .i64 (mxl L (n - 1))) ∧ Bel w w' := by
  have HZ := Lib.hid hz
  have ni : (n : Int) ≤ 8 := by omega
  have ni1 : ¬ (n : Int) < 1 := by omega
  have ni2 : decide ((n : Int) < 1) = false := decide_eq_false ni1
  have ni3 : (0 : Int) < (n : Int) := by omega
  have ni4 : 0 < n := by omega
  have ni5 : ¬ n < 1 := by omega
  have c0 := hz.at 0 n1
  have c0' := c0
  obtain ⟨x0, hx0⟩ : ∃ x, L.getD 0 0 = x := ⟨_, rfl⟩
  rw [hx0] at c0 c0'
  clear hz
  go_enter Try.func105, Try.ntmps105
  go_wp2
  go_loopw [4, 3] (fun s4 s3 wr => ∃ (i : Nat) (V : World), V = wr ∧ i + 1 ≤ n ∧ s4 = .int .i64 ((i : Int) + 1) ∧ s3 = .int .i64 (mxl L i) ∧ Bel w wr) (fun s4 _ _ => n - (intOf s4).toNat)
  case atStart => exact ⟨0, _, rfl, by omega, by go_num, by rw [← hx0]; rfl, (by repeat (first | exact Bel.rf | (with_reducible refine Bel.drwN ?_ _) | (with_reducible refine Bel.drw ?_) | (with_reducible refine Bel.al ?_ _)))⟩
  case round =>
    obtain ⟨i, wr, hwr, hi, rfl, rfl, hb⟩ := hrel
    subst hwr
    have HB := Lib.hid hb
    rcases Nat.lt_or_ge (i + 1) n with hlt | hge
    · have c1 := (HZ.out.bel hb).at (i + 1) hlt
      obtain ⟨v, hv⟩ : ∃ v, mxl L i = v := ⟨_, rfl⟩
      obtain ⟨y, hy⟩ : ∃ y, L.getD (i + 1) 0 = y := ⟨_, rfl⟩
      have HN : Hid (mxl L (i + 1) = max v y) := by show _ = _; rw [← hv, ← hy]; rfl
      rw [hy] at c1
      rw [hv]
      have ii : (i : Int) + 1 < (n : Int) := by omega
      have i0 : (0 : Int) ≤ (i : Int) + 1 := by omega
      have ti : ((i : Int) + 1).toNat = i + 1 := by omega
      clear hb hx0 c0 c0' hv hy
      rcases Int.lt_trichotomy v y with g | g | g
      · have HM : Hid (max v y = y) := by show _ = _; omega
        go_wp2
        go_roundw
        case rel => exact ⟨i + 1, _, rfl, by omega, by go_num, congrArg (Value.int .i64) (by rw [HN.out]; omega), (by repeat (first | exact HB.out | (with_reducible refine Bel.drwN ?_ _) | (with_reducible refine Bel.drw ?_) | (with_reducible refine Bel.al ?_ _)))⟩
        case measure => simp [intOf]; omega
      · subst g
        go_wp2
        go_roundw
        case rel => exact ⟨i + 1, _, rfl, by omega, by go_num, congrArg (Value.int .i64) (by rw [HN.out]; omega), (by repeat (first | exact HB.out | (with_reducible refine Bel.drwN ?_ _) | (with_reducible refine Bel.drw ?_) | (with_reducible refine Bel.al ?_ _)))⟩
        case measure => simp [intOf]; omega
      · go_wp2
        go_roundw
        case rel => exact ⟨i + 1, _, rfl, by omega, by go_num, congrArg (Value.int .i64) (by rw [HN.out]; omega), (by repeat (first | exact HB.out | (with_reducible refine Bel.drwN ?_ _) | (with_reducible refine Bel.drw ?_) | (with_reducible refine Bel.al ?_ _)))⟩
        case measure => simp [intOf]; omega
    · have hin : n - 1 = i := by omega
      have HE : Hid (mxl L i = mxl L (n - 1)) := by show _ = _; rw [hin]
      have hi1 : ¬ (i : Int) + 1 < (n : Int) := by omega
      have hi2 : decide ((i : Int) + 1 < (n : Int)) = false := decide_eq_false hi1
      clear hb hin hx0 c0 c0'
      go_wp2
      go_ret
      exact ⟨congrArg (fun z => Ending.returned (.int .i64 z)) HE.out, (by repeat (first | exact HB.out | (with_reducible refine Bel.drwN ?_ _) | (with_reducible refine Bel.drw ?_) | (with_reducible refine Bel.al ?_ _)))⟩
end Go.Proofs.Ytgdhgeongdenpaa.Sk
namespace Go.Proofs.Ytgdhgeongdenpaa.Sk
open Go.ChangeShapes Go.WideShapes Go.RowKit Wo Sr Wi Nr Pc Eu Ra
open Wd (Rp rs rs_at rs_cons)
set_option linter.unusedVariables false
set_option linter.unusedSimpArgs false
theorem results_x {fn : Func} {p : Tmp} (h : fn.results = #[.cell p 103]) (tmps : Array Value) (w : World) (g : Nat) (a b c : Value)
    (hp : tmps.getD p undef = .pointer (some ⟨g, 0, none⟩)) (hg : Bk w g 103 #[a, b, c]) : (results fn tmps).run Try.prog w = .ok (.agg #[a, b, c]) w := by
  have hp' : tmps[p]?.getD undef = .pointer (some ⟨g, 0, none⟩) := by simpa using hp
  have hl := run_loadVar_row (P := Try.prog) w g 103 103 #[a, b, c] (0, 0) _ hg Try.underlying103 rfl (by kernel_rfl)
  simp [results, h, hp', asAddr, hl]
theorem results_rt {fn : Func} {p q : Tmp} (h : fn.results = #[.cell p 69, .tmp q]) (tmps : Array Value) (w : World) (g : Nat) (a b c : Value)
    (hp : tmps.getD p undef = .pointer (some ⟨g, 0, none⟩)) (hq : tmps.getD q undef = c) (hg : Bk w g 69 #[a, b]) : (results fn tmps).run Try.prog w = .ok (.tuple #[.agg #[a, b], c]) w := by
  have hp' : tmps[p]?.getD undef = .pointer (some ⟨g, 0, none⟩) := by simpa using hp
  have hq' : tmps[q]?.getD undef = c := by simpa using hq
  have hl := run_loadVar_row (P := Try.prog) w g 69 69 #[a, b] (0, 0) _ hg Try.underlying69 rfl (by kernel_rfl)
  simp [results, h, hp', hq', asAddr, hl]
/-- what the lengths of pieces divide -/
def cmn (m n : Nat) : Int := if mnl (lns m n) (n - 1) < mxl (lns m n) (n - 1) then mnl (lns m n) (n - 1) * mxl (lns m n) (n - 1) else mnl (lns m n) (n - 1)
theorem mm_in {L : List Int} {B : Int} {n : Nat} (h : ∀ i, i < n → 1 ≤ L.getD i 0 ∧ L.getD i 0 ≤ B) : ∀ i, i < n → (1 ≤ mnl L i ∧ mnl L i ≤ B) ∧ (1 ≤ mxl L i ∧ mxl L i ≤ B)
  | 0, hi => ⟨h 0 hi, h 0 hi⟩
  | i + 1, hi => by
    have a := mm_in h i (by omega)
    have b := h (i + 1) hi
    unfold mnl mxl
    omega
theorem lns_in {m n : Nat} (m32 : m ≤ 32) (n1 : 1 ≤ n) (nm : n ≤ m) : ∀ i, i < n → 1 ≤ (lns m n).getD i 0 ∧ (lns m n).getD i 0 ≤ 33 ∧ (2 ≤ n → (lns m n).getD i 0 ≤ 17) := fun i hi => by
  rw [lns_at m n i hi]
  have h1 := ln_pos m n i n1 nm
  have h2 := (st_step m n i n1).2
  have h3 : m / n ≤ m := Nat.div_le_self _ _
  have h4 : 2 ≤ n → m / n ≤ 16 := fun h2 => by
    have : m / n ≤ m / 2 := Nat.div_le_div_left h2 (by decide)
    omega
  unfold ln at h1 ⊢
  refine ⟨by omega, by omega, fun h => by have := h4 h; omega⟩
theorem cmn_in {m n : Nat} (m32 : m ≤ 32) (n1 : 1 ≤ n) (nm : n ≤ m) : (1 ≤ mnl (lns m n) (n - 1) ∧ mnl (lns m n) (n - 1) ≤ 33) ∧ (1 ≤ mxl (lns m n) (n - 1) ∧ mxl (lns m n) (n - 1) ≤ 33) ∧ 1 ≤ cmn m n ∧ cmn m n ≤ 289 ∧ (mnl (lns m n) (n - 1) < mxl (lns m n) (n - 1) → mnl (lns m n) (n - 1) * mxl (lns m n) (n - 1) ≤ 289) := by
  have hl := lns_in m32 n1 nm
  have a := mm_in (B := 33) (n := n) (fun i hi => ⟨(hl i hi).1, (hl i hi).2.1⟩) (n - 1) (by omega)
  have key : mnl (lns m n) (n - 1) < mxl (lns m n) (n - 1) → 1 ≤ mnl (lns m n) (n - 1) * mxl (lns m n) (n - 1) ∧ mnl (lns m n) (n - 1) * mxl (lns m n) (n - 1) ≤ 289 := fun h => by
    rcases Nat.lt_or_ge 1 n with q | q
    · have b := mm_in (B := 17) (n := n) (fun i hi => ⟨(hl i hi).1, (hl i hi).2.2 q⟩) (n - 1) (by omega)
      have c1 := Int.mul_le_mul b.1.2 b.2.2 (by omega) (by decide)
      have c2 := Int.mul_le_mul b.1.1 b.2.1 (by decide) (by omega)
      omega
    · obtain rfl : n = 1 := by omega
      exact absurd h (by show ¬ (lns m 1).getD 0 0 < (lns m 1).getD 0 0; omega)
  refine ⟨a.1, a.2, ?_, ?_, fun h => (key h).2⟩
  · unfold cmn; split
    · rename_i h; exact (key h).1
    · exact a.1.1
  · unfold cmn; split
    · rename_i h; exact (key h).2
    · omega
set_option maxHeartbeats 8000000 in
set_option maxRecDepth 100000 in
theorem none_ok (a c m n : Nat) (E : Int) (m2 : 2 ≤ m) (m32 : m ≤ 32) (n1 : 1 ≤ n) (n8 : n ≤ 8) (nm : n ≤ m) (w : World) :
    Calls Try.prog 68 #[skv a c m n E] w fun e w' => ∃ g, e = .returned (.agg #[.int .i64 0, .int .i64 (2097152 * cmn m n), .slice (some ⟨g, 0, none⟩) n n]) ∧ w.heap.size ≤ g ∧ Bk w' g 3 (zs (lns m n)).toArray ∧ Bel w w' := by
  have LX : Hid (∀ W, Calls Try.prog 103 #[.agg #[.int .i64 (m : Int), .slice (some ⟨a, 0, none⟩) n c, .int .i64 E]] W fun e w' => ∃ g, e = .returned (.slice (some ⟨g, 0, none⟩) n n) ∧ W.heap.size ≤ g ∧ Bk w' g 3 (zs (lns m n)).toArray ∧ Bel W w') := fun W => lengths_ok a c m n E m2 m32 n1 n8 nm W
  have ci := cmn_in m32 n1 nm
  have HLL : Hid ((lns m n).length = n) := lns_len m n
  have HCM : Hid (cmn m n = if mnl (lns m n) (n - 1) < mxl (lns m n) (n - 1) then mnl (lns m n) (n - 1) * mxl (lns m n) (n - 1) else mnl (lns m n) (n - 1)) := rfl
  have MI : Hid (∀ g W, Zi W (some ⟨g, 0, none⟩) n (lns m n) → Calls Try.prog 104 #[.slice (some ⟨g, 0, none⟩) n n] W fun e w' => e = .returned (.int .i64 (mnl (lns m n) (n - 1))) ∧ Bel W w') := fun g W h => mn_ok g n n (lns m n) n1 n8 W h
  have MA : Hid (∀ g W, Zi W (some ⟨g, 0, none⟩) n (lns m n) → Calls Try.prog 105 #[.slice (some ⟨g, 0, none⟩) n n] W fun e w' => e = .returned (.int .i64 (mxl (lns m n) (n - 1))) ∧ Bel W w') := fun g W h => mx_ok g n n (lns m n) n1 n8 W h
  obtain ⟨u, hu⟩ : ∃ u, mnl (lns m n) (n - 1) = u := ⟨_, rfl⟩
  obtain ⟨v, hv⟩ : ∃ u, mxl (lns m n) (n - 1) = u := ⟨_, rfl⟩
  obtain ⟨Q, hQ⟩ : ∃ u, cmn m n = u := ⟨_, rfl⟩
  rw [hu] at ci HCM MI
  rw [hv] at ci HCM MA
  rw [hQ] at ci HCM ⊢
  obtain ⟨⟨u1, u2⟩, ⟨v1, v2⟩, Q1, Q2, hprod⟩ := ci
  have HR0 : Hid (Bk ((w.alloc (.cells #[.int .i64 (m : Int), .slice (some ⟨a, 0, none⟩) n c, .int .i64 E] 64)).alloc (.cells #[.int .i64 0, .int .i64 0, .slice none 0 0] 103)) (w.heap.size + 1) 103 #[.int .i64 0, .int .i64 0, .slice none 0 0]) := Bk.nq _ _ _ (by simp)
  have HW0 : Hid (Bel w ((w.alloc (.cells #[.int .i64 (m : Int), .slice (some ⟨a, 0, none⟩) n c, .int .i64 E] 64)).alloc (.cells #[.int .i64 0, .int .i64 0, .slice none 0 0] 103))) := (Bel.rf.al _).al _
  have HPR := Lib.hid hprod
  clear hu hv hQ hprod
  unfold skv
  go_enter Try.func68, Try.ntmps68
  go_wp2_with fail
  go_at_call 103
  refine (LX.out _).mono ?_
  rintro e w1 ⟨g, rfl, hg0, hgk, hb⟩
  have hb1 : Bel ((w.alloc (.cells #[.int .i64 (m : Int), .slice (some ⟨a, 0, none⟩) n c, .int .i64 E] 64)).alloc (.cells #[.int .i64 0, .int .i64 0, .slice none 0 0] 103)) w1 := Bel.tr (by repeat (first | exact Bel.rf | (with_reducible refine Bel.drwN ?_ _) | (with_reducible refine Bel.drw ?_) | (with_reducible refine Bel.al ?_ _))) hb
  have HW1 : Hid (Bel w w1) := HW0.out.tr hb1
  have HR1 := Lib.hid (HR0.out.bel hb1)
  have HGK := Lib.hid hgk
  have HG0 : Hid (w.heap.size ≤ g) := Nat.le_trans HW0.out.size (Nat.le_trans (by (try simp)) hg0)
  clear hb hb1 hgk hg0
  go_wp2_with fail
  go_at_call 104
  refine (MI.out g _ ((zi_bk HGK.out n HLL.out).bel (by repeat (first | exact Bel.rf | (with_reducible refine Bel.drwN ?_ _) | (with_reducible refine Bel.drw ?_) | (with_reducible refine Bel.al ?_ _))))).mono ?_
  rintro e w2 ⟨rfl, hb⟩
  have H12 : Hid (Bel w1 w2) := Bel.tr (by repeat (first | exact Bel.rf | (with_reducible refine Bel.drwN ?_ _) | (with_reducible refine Bel.drw ?_) | (with_reducible refine Bel.al ?_ _))) hb
  clear hb
  go_wp2_with fail
  go_at_call 105
  refine (MA.out g _ ((zi_bk HGK.out n HLL.out).bel (H12.out.tr (by repeat (first | exact Bel.rf | (with_reducible refine Bel.drwN ?_ _) | (with_reducible refine Bel.drw ?_) | (with_reducible refine Bel.al ?_ _)))))).mono ?_
  rintro e w3 ⟨rfl, hb⟩
  have H13 : Hid (Bel w1 w3) := H12.out.tr (Bel.tr (by repeat (first | exact Bel.rf | (with_reducible refine Bel.drwN ?_ _) | (with_reducible refine Bel.drw ?_) | (with_reducible refine Bel.al ?_ _))) hb)
  have HR3 := Lib.hid (HR1.out.bel H13.out)
  have y0 := HR3.out.cell 0
  have y1 := HR3.out.cell 1
  have y2 := HR3.out.cell 2
  have z0 := HR3.out.fr 0
  have z1 := HR3.out.fr 1
  have z2 := HR3.out.fr 2
  simp only [List.getElem?_toArray, List.getElem?_cons_zero, List.getElem?_cons_succ] at y0 y1 y2
  have lt3 : w.heap.size + 1 < w3.heap.size := HR3.out.lt
  have HFF : Hid (∀ x : Int, Bk (((w3.setCell ⟨w.heap.size + 1, 0, none⟩ (.int .i64 0)).setCell ⟨w.heap.size + 1, 1, none⟩ (.int .i64 x)).setCell ⟨w.heap.size + 1, 2, none⟩ (.slice (some ⟨g, 0, none⟩) n n)) (w.heap.size + 1) 103 #[.int .i64 0, .int .i64 x, .slice (some ⟨g, 0, none⟩) n n] ∧ Bel w (((w3.setCell ⟨w.heap.size + 1, 0, none⟩ (.int .i64 0)).setCell ⟨w.heap.size + 1, 1, none⟩ (.int .i64 x)).setCell ⟨w.heap.size + 1, 2, none⟩ (.slice (some ⟨g, 0, none⟩) n n))) := fun x => ⟨((HR3.out.st 0 _).st 1 _).st 2 _, Bel.st2 (by show w.heap.size ≤ w.heap.size + 1; omega) (Bel.st2 (by show w.heap.size ≤ w.heap.size + 1; omega) (Bel.st2 (by show w.heap.size ≤ w.heap.size + 1; omega) (HW1.out.tr H13.out) _) _) _⟩
  have HNG : Hid (g ≠ w.heap.size + 1) := fun e => by
    have h1 := HR1.out
    have h2 := HGK.out
    rw [e] at h2
    have h3 : w1.heap[w.heap.size + 1]? = some _ := h1
    have h4 : w1.heap[w.heap.size + 1]? = some _ := h2
    rw [h3] at h4
    injection h4 with h4
    injection h4 with _ h5
    exact absurd h5 (by decide)
  have HGF : Hid (∀ x : Int, Bk (((w3.setCell ⟨w.heap.size + 1, 0, none⟩ (.int .i64 0)).setCell ⟨w.heap.size + 1, 1, none⟩ (.int .i64 x)).setCell ⟨w.heap.size + 1, 2, none⟩ (.slice (some ⟨g, 0, none⟩) n n)) g 3 (zs (lns m n)).toArray) := fun x => (((HGK.out.bel H13.out).far HNG.out _).far HNG.out _).far HNG.out _
  clear hb
  rcases Int.lt_or_le u v with h | h
  · obtain ⟨P, hP⟩ : ∃ P, u * v = P := ⟨_, rfl⟩
    have hq : P = Q := by rw [← hP, HCM.out, if_pos h]
    have p2 := HPR.out h
    rw [hP] at p2
    subst hq
    have dg : decide (v > u) = true := decide_eq_true h
    clear HPR
    go_wp2
    exact bodyPost_ret (v := .agg #[.int .i64 0, .int .i64 (2097152 * P), .slice (some ⟨g, 0, none⟩) n n]) (results_x Try.results68 _ _ (w.heap.size + 1) _ _ _ rfl (HFF.out _).1) rfl ⟨g, rfl, HG0.out, HGF.out _, (HFF.out _).2⟩
  · have hq : Q = u := by rw [HCM.out, if_neg (by omega)]
    subst hq
    have dn : ¬ Q < v := by omega
    have dg : decide (v > Q) = false := decide_eq_false dn
    clear HPR
    go_wp2
    exact bodyPost_ret (v := .agg #[.int .i64 0, .int .i64 (2097152 * Q), .slice (some ⟨g, 0, none⟩) n n]) (results_x Try.results68 _ _ (w.heap.size + 1) _ _ _ rfl (HFF.out _).1) rfl ⟨g, rfl, HG0.out, HGF.out _, (HFF.out _).2⟩
def opA : Oper := ⟨none, .store 3 (.tmp 34) (.tmp 31), 0, "sketch.go:125", #[⟨26, .data⟩, ⟨23, .data⟩, ⟨0, .phase⟩, ⟨1, .phase⟩, ⟨2, .phase⟩, ⟨3, .phase⟩, ⟨4, .phase⟩, ⟨5, .phase⟩, ⟨6, .phase⟩, ⟨7, .phase⟩, ⟨8, .phase⟩, ⟨9, .phase⟩, ⟨10, .phase⟩, ⟨11, .phase⟩, ⟨12, .phase⟩, ⟨13, .phase⟩, ⟨14, .phase⟩, ⟨15, .phase⟩, ⟨16, .phase⟩, ⟨17, .phase⟩, ⟨18, .phase⟩, ⟨19, .phase⟩, ⟨20, .phase⟩, ⟨21, .phase⟩, ⟨22, .phase⟩, ⟨23, .phase⟩], none⟩
set_option maxHeartbeats 8000000 in
set_option maxRecDepth 100000 in
theorem add_ok (z g n p : Nat) (num Q d l : Int) (Ls : List Int) (n8 : n ≤ 8) (hp : p < n) (hl : Ls.getD p 0 = l) (l1 : 1 ≤ l) (l2 : l ≤ 33) (Q1 : 1 ≤ Q) (Q2 : Q ≤ 289) (d0 : 0 ≤ d) (d1 : d ≤ 1099511627776) (num0 : 0 ≤ num) (num1 : num ≤ 1152921504606846976) (w : World) (hk : Bk w z 103 #[.int .i64 num, .int .i64 (2097152 * Q), .slice (some ⟨g, 0, none⟩) n n]) (hz : Zi w (some ⟨g, 0, none⟩) n Ls) :
    Calls Try.prog 69 #[.pointer (some ⟨z, 0, none⟩), .int .i64 (p : Int), .int .i64 d] w fun e w' => e = .returned (.tuple #[]) ∧ Bk w' z 103 #[.int .i64 (num + min d 16384 * min d 16384 * (2097152 * Q / (2097152 * l))), .int .i64 (2097152 * Q), .slice (some ⟨g, 0, none⟩) n n] ∧ Ch z w w' := by
  have HK := Lib.hid hk
  have c3 := hz.at p hp
  rw [hl] at c3
  obtain ⟨x, hx⟩ : ∃ x, min d 16384 = x := ⟨_, rfl⟩
  have x0 : 0 ≤ x := by omega
  have x1 : x ≤ 16384 := by omega
  obtain ⟨D, hD⟩ : ∃ x, 2097152 * Q = x := ⟨_, rfl⟩
  obtain ⟨G, hG⟩ : ∃ x, 2097152 * l = x := ⟨_, rfl⟩
  obtain ⟨K', hK'⟩ : ∃ x, D / G = x := ⟨_, rfl⟩
  have hk0 : 0 ≤ K' ∧ K' ≤ 289 := by
    rw [← hK']
    refine ⟨Int.ediv_nonneg (by omega) (by omega), ?_⟩
    have : D / G < 290 := by
      rw [Int.ediv_lt_iff_lt_mul (by omega)]
      omega
    omega
  obtain ⟨Y, hY⟩ : ∃ Y, x * x = Y := ⟨_, rfl⟩
  have hy0 : 0 ≤ Y ∧ Y ≤ 268435456 := by
    rw [← hY]
    exact ⟨Int.mul_nonneg x0 x0, Int.mul_le_mul x1 x1 x0 (by decide)⟩
  obtain ⟨Z, hZ⟩ : ∃ Z, Y * K' = Z := ⟨_, rfl⟩
  have hz0 : 0 ≤ Z ∧ Z ≤ 77577846784 := by
    rw [← hZ]
    exact ⟨Int.mul_nonneg hy0.1 hk0.1, Int.mul_le_mul hy0.2 hk0.2 hk0.1 (by decide)⟩
  have w1 : IntKind.i64.wrap (x * x) = Y := by rw [hY]; exact IntWalk.i64_in _ (by omega)
  have w2 : IntKind.i64.wrap (2097152 * l) = G := by rw [hG]; exact IntWalk.i64_in _ (by omega)
  have w3 : IntKind.i64.wrap (D.tdiv G) = K' := by rw [Int.tdiv_eq_ediv_of_nonneg (by omega), hK']; exact IntWalk.i64_in _ (by omega)
  have w4 : IntKind.i64.wrap (Y * K') = Z := by rw [hZ]; exact IntWalk.i64_in _ (by omega)
  have w5 : IntKind.i64.wrap (num + Z) = num + Z := IntWalk.i64_in _ (by omega)
  have g0 : ¬ G = 0 := by omega
  have pi : (p : Int) < (n : Int) := by omega
  have pi0 : (0 : Int) ≤ (p : Int) := by omega
  rw [hx, hD, hG, hK', hY, hZ]
  rw [hD] at hk HK
  have HK2 := Lib.hid hk
  have HWS := Lib.hid (And.intro w1 (And.intro w2 (And.intro w3 (And.intro w4 (And.intro w5 g0)))))
  have HX := Lib.hid hx
  have HYY := Lib.hid hY
  have w6 : IntKind.i64.wrap 268435456 = 268435456 := by decide
  have KS : Hid (∀ W, Bel w W → (fun W : World => W.cell? ⟨z, 0, none⟩ = some (.int .i64 num) ∧ W.cell? ⟨z, 1, none⟩ = some (.int .i64 D) ∧ W.cell? ⟨z, 2, none⟩ = some (.slice (some ⟨g, 0, none⟩) n n) ∧ W.cell? ⟨g, p, none⟩ = some (.int .i64 l)) W) := fun W hW => by
    have h := HK2.out.bel hW
    have u0 := h.cell 0
    have u1 := h.cell 1
    have u2 := h.cell 2
    simp only [List.getElem?_toArray, List.getElem?_cons_zero, List.getElem?_cons_succ] at u0 u1 u2
    exact ⟨u0, u1, u2, hW.kp c3⟩
  have y0 := hk.cell 0
  have z0 := hk.fr 0
  simp only [List.getElem?_toArray, List.getElem?_cons_zero, List.getElem?_cons_succ] at y0
  clear hz hl hD hG hK' hY hZ hk w1 w2 w3 w4 w5 g0 hk0 hy0 hz0 hx x0 x1 c3 num0 num1 Q1 Q2 l1 l2
  rcases Int.lt_trichotomy d 16384 with hd | hd | hd
  · obtain rfl : x = d := by have := HX.out; omega
    go_enter Try.func69, Try.ntmps69
    go_upto_region 1 with fail
    obtain ⟨w1, w2, w3, w4, w5, g0⟩ := HWS.out
    refine wp_region_noPanic ?_
    refine Rb.wp_region_till (S := fun W : World => W.cell? ⟨z, 0, none⟩ = some (.int .i64 num) ∧ W.cell? ⟨z, 1, none⟩ = some (.int .i64 D) ∧ W.cell? ⟨z, 2, none⟩ = some (.slice (some ⟨g, 0, none⟩) n n) ∧ W.cell? ⟨g, p, none⟩ = some (.int .i64 l)) 27 (by kernel_rfl) ?_ (fun hH0 => ?_)
    · (try dsimp only); exact KS.out _ (by repeat (first | exact Bel.rf | (with_reducible refine Bel.drwN ?_ _) | (with_reducible refine Bel.drw ?_) | (with_reducible refine Bel.al ?_ _)))
    refine Rb.till_take (i := 0) (oi := ⟨some 8, .move (.tmp 0), 128, "sketch.go:125", #[], none⟩) (v := ?_) rfl (by kernel_rfl) (by kernel_rfl) (by kernel_rfl) (fun _ _ _ h => h) (by decide) opA rfl (by kernel_rfl) (by kernel_rfl) (Or.inl ⟨by first | kernel_rfl | rfl, ?_⟩) (by assumption) ?_
    rotate_left
    · (intro w hSw; (try dsimp only at hSw); obtain ⟨d1, d2, d3, d4⟩ := hSw; go_simp; try with_reducible rfl)
    try simp only [Act.put, List.setIfInBounds_toArray, List.set_cons_zero, List.set_cons_succ]
    refine Rb.till_take (i := 1) (oi := ⟨some 9, .nilCheck (.tmp 8), 0, "sketch.go:125", #[⟨0, .data⟩], none⟩) (v := ?_) rfl (by kernel_rfl) (by kernel_rfl) (by kernel_rfl) (fun _ _ _ h => h) (by decide) opA rfl (by kernel_rfl) (by kernel_rfl) (Or.inl ⟨by first | kernel_rfl | rfl, ?_⟩) (by assumption) ?_
    rotate_left
    · (intro w hSw; (try dsimp only at hSw); obtain ⟨d1, d2, d3, d4⟩ := hSw; go_simp; try with_reducible rfl)
    try simp only [Act.put, List.setIfInBounds_toArray, List.set_cons_zero, List.set_cons_succ]
    refine Rb.till_take (i := 2) (oi := ⟨some 10, .fieldAddr 103 (.tmp 9) 0, 0, "sketch.go:125", #[⟨1, .data⟩], none⟩) (v := ?_) rfl (by kernel_rfl) (by kernel_rfl) (by kernel_rfl) (fun _ _ _ h => h) (by decide) opA rfl (by kernel_rfl) (by kernel_rfl) (Or.inl ⟨by first | kernel_rfl | rfl, ?_⟩) (by assumption) ?_
    rotate_left
    · (intro w hSw; (try dsimp only at hSw); obtain ⟨d1, d2, d3, d4⟩ := hSw; go_simp; try with_reducible rfl)
    try simp only [Act.put, List.setIfInBounds_toArray, List.set_cons_zero, List.set_cons_succ]
    refine Rb.till_take (i := 3) (oi := ⟨some 11, .fieldAddr 101 (.tmp 10) 0, 0, "sketch.go:125", #[⟨2, .data⟩], none⟩) (v := ?_) rfl (by kernel_rfl) (by kernel_rfl) (by kernel_rfl) (fun _ _ _ h => h) (by decide) opA rfl (by kernel_rfl) (by kernel_rfl) (Or.inl ⟨by first | kernel_rfl | rfl, ?_⟩) (by assumption) ?_
    rotate_left
    · (intro w hSw; (try dsimp only at hSw); obtain ⟨d1, d2, d3, d4⟩ := hSw; go_simp; try with_reducible rfl)
    try simp only [Act.put, List.setIfInBounds_toArray, List.set_cons_zero, List.set_cons_succ]
    refine Rb.till_take (i := 4) (oi := ⟨some 12, .load 3 (.tmp 11), 3, "sketch.go:125", #[⟨3, .data⟩], none⟩) (v := ?_) rfl (by kernel_rfl) (by kernel_rfl) (by kernel_rfl) (fun _ _ _ h => h) (by decide) opA rfl (by kernel_rfl) (by kernel_rfl) (Or.inl ⟨by first | kernel_rfl | rfl, ?_⟩) (by assumption) ?_
    rotate_left
    · (intro w hSw; (try dsimp only at hSw); obtain ⟨d1, d2, d3, d4⟩ := hSw; go_simp; try with_reducible rfl)
    try simp only [Act.put, List.setIfInBounds_toArray, List.set_cons_zero, List.set_cons_succ]
    refine Rb.till_take (i := 5) (oi := ⟨some 13, .move (.tmp 2), 3, "sketch.go:125", #[], none⟩) (v := ?_) rfl (by kernel_rfl) (by kernel_rfl) (by kernel_rfl) (fun _ _ _ h => h) (by decide) opA rfl (by kernel_rfl) (by kernel_rfl) (Or.inl ⟨by first | kernel_rfl | rfl, ?_⟩) (by assumption) ?_
    rotate_left
    · (intro w hSw; (try dsimp only at hSw); obtain ⟨d1, d2, d3, d4⟩ := hSw; go_simp; try with_reducible rfl)
    try simp only [Act.put, List.setIfInBounds_toArray, List.set_cons_zero, List.set_cons_succ]
    refine Rb.till_take (i := 6) (oi := ⟨some 14, .move (.tmp 2), 3, "sketch.go:125", #[], none⟩) (v := ?_) rfl (by kernel_rfl) (by kernel_rfl) (by kernel_rfl) (fun _ _ _ h => h) (by decide) opA rfl (by kernel_rfl) (by kernel_rfl) (Or.inl ⟨by first | kernel_rfl | rfl, ?_⟩) (by assumption) ?_
    rotate_left
    · (intro w hSw; (try dsimp only at hSw); obtain ⟨d1, d2, d3, d4⟩ := hSw; go_simp; try with_reducible rfl)
    try simp only [Act.put, List.setIfInBounds_toArray, List.set_cons_zero, List.set_cons_succ]
    refine Rb.till_take (i := 7) (oi := ⟨some 15, .binOp BinOp.mul 3 (.tmp 13) (.tmp 14) 3, 3, "sketch.go:125", #[⟨5, .data⟩, ⟨6, .data⟩], none⟩) (v := ?_) rfl (by kernel_rfl) (by kernel_rfl) (by kernel_rfl) (fun _ _ _ h => h) (by decide) opA rfl (by kernel_rfl) (by kernel_rfl) (Or.inl ⟨by first | kernel_rfl | rfl, ?_⟩) (by assumption) ?_
    rotate_left
    · (intro w hSw; (try dsimp only at hSw); obtain ⟨d1, d2, d3, d4⟩ := hSw; go_simp; try with_reducible rfl)
    try simp only [Act.put, List.setIfInBounds_toArray, List.set_cons_zero, List.set_cons_succ]
    refine Rb.till_take (i := 8) (oi := ⟨some 16, .move (.tmp 0), 128, "sketch.go:125", #[], none⟩) (v := ?_) rfl (by kernel_rfl) (by kernel_rfl) (by kernel_rfl) (fun _ _ _ h => h) (by decide) opA rfl (by kernel_rfl) (by kernel_rfl) (Or.inl ⟨by first | kernel_rfl | rfl, ?_⟩) (by assumption) ?_
    rotate_left
    · (intro w hSw; (try dsimp only at hSw); obtain ⟨d1, d2, d3, d4⟩ := hSw; go_simp; try with_reducible rfl)
    try simp only [Act.put, List.setIfInBounds_toArray, List.set_cons_zero, List.set_cons_succ]
    refine Rb.till_take (i := 9) (oi := ⟨some 17, .nilCheck (.tmp 16), 0, "sketch.go:125", #[⟨8, .data⟩], none⟩) (v := ?_) rfl (by kernel_rfl) (by kernel_rfl) (by kernel_rfl) (fun _ _ _ h => h) (by decide) opA rfl (by kernel_rfl) (by kernel_rfl) (Or.inl ⟨by first | kernel_rfl | rfl, ?_⟩) (by assumption) ?_
    rotate_left
    · (intro w hSw; (try dsimp only at hSw); obtain ⟨d1, d2, d3, d4⟩ := hSw; go_simp; try with_reducible rfl)
    try simp only [Act.put, List.setIfInBounds_toArray, List.set_cons_zero, List.set_cons_succ]
    refine Rb.till_take (i := 10) (oi := ⟨some 18, .fieldAddr 103 (.tmp 17) 0, 0, "sketch.go:125", #[⟨9, .data⟩], none⟩) (v := ?_) rfl (by kernel_rfl) (by kernel_rfl) (by kernel_rfl) (fun _ _ _ h => h) (by decide) opA rfl (by kernel_rfl) (by kernel_rfl) (Or.inl ⟨by first | kernel_rfl | rfl, ?_⟩) (by assumption) ?_
    rotate_left
    · (intro w hSw; (try dsimp only at hSw); obtain ⟨d1, d2, d3, d4⟩ := hSw; go_simp; try with_reducible rfl)
    try simp only [Act.put, List.setIfInBounds_toArray, List.set_cons_zero, List.set_cons_succ]
    refine Rb.till_take (i := 11) (oi := ⟨some 19, .fieldAddr 101 (.tmp 18) 1, 0, "sketch.go:125", #[⟨10, .data⟩], none⟩) (v := ?_) rfl (by kernel_rfl) (by kernel_rfl) (by kernel_rfl) (fun _ _ _ h => h) (by decide) opA rfl (by kernel_rfl) (by kernel_rfl) (Or.inl ⟨by first | kernel_rfl | rfl, ?_⟩) (by assumption) ?_
    rotate_left
    · (intro w hSw; (try dsimp only at hSw); obtain ⟨d1, d2, d3, d4⟩ := hSw; go_simp; try with_reducible rfl)
    try simp only [Act.put, List.setIfInBounds_toArray, List.set_cons_zero, List.set_cons_succ]
    refine Rb.till_take (i := 12) (oi := ⟨some 20, .load 3 (.tmp 19), 3, "sketch.go:125", #[⟨11, .data⟩], none⟩) (v := ?_) rfl (by kernel_rfl) (by kernel_rfl) (by kernel_rfl) (fun _ _ _ h => h) (by decide) opA rfl (by kernel_rfl) (by kernel_rfl) (Or.inl ⟨by first | kernel_rfl | rfl, ?_⟩) (by assumption) ?_
    rotate_left
    · (intro w hSw; (try dsimp only at hSw); obtain ⟨d1, d2, d3, d4⟩ := hSw; go_simp; try with_reducible rfl)
    try simp only [Act.put, List.setIfInBounds_toArray, List.set_cons_zero, List.set_cons_succ]
    refine Rb.till_take (i := 13) (oi := ⟨some 21, .move (.tmp 0), 128, "sketch.go:125", #[], none⟩) (v := ?_) rfl (by kernel_rfl) (by kernel_rfl) (by kernel_rfl) (fun _ _ _ h => h) (by decide) opA rfl (by kernel_rfl) (by kernel_rfl) (Or.inl ⟨by first | kernel_rfl | rfl, ?_⟩) (by assumption) ?_
    rotate_left
    · (intro w hSw; (try dsimp only at hSw); obtain ⟨d1, d2, d3, d4⟩ := hSw; go_simp; try with_reducible rfl)
    try simp only [Act.put, List.setIfInBounds_toArray, List.set_cons_zero, List.set_cons_succ]
    refine Rb.till_take (i := 14) (oi := ⟨some 22, .nilCheck (.tmp 21), 0, "sketch.go:125", #[⟨13, .data⟩], none⟩) (v := ?_) rfl (by kernel_rfl) (by kernel_rfl) (by kernel_rfl) (fun _ _ _ h => h) (by decide) opA rfl (by kernel_rfl) (by kernel_rfl) (Or.inl ⟨by first | kernel_rfl | rfl, ?_⟩) (by assumption) ?_
    rotate_left
    · (intro w hSw; (try dsimp only at hSw); obtain ⟨d1, d2, d3, d4⟩ := hSw; go_simp; try with_reducible rfl)
    try simp only [Act.put, List.setIfInBounds_toArray, List.set_cons_zero, List.set_cons_succ]
    refine Rb.till_take (i := 15) (oi := ⟨some 23, .fieldAddr 103 (.tmp 22) 1, 0, "sketch.go:125", #[⟨14, .data⟩], none⟩) (v := ?_) rfl (by kernel_rfl) (by kernel_rfl) (by kernel_rfl) (fun _ _ _ h => h) (by decide) opA rfl (by kernel_rfl) (by kernel_rfl) (Or.inl ⟨by first | kernel_rfl | rfl, ?_⟩) (by assumption) ?_
    rotate_left
    · (intro w hSw; (try dsimp only at hSw); obtain ⟨d1, d2, d3, d4⟩ := hSw; go_simp; try with_reducible rfl)
    try simp only [Act.put, List.setIfInBounds_toArray, List.set_cons_zero, List.set_cons_succ]
    refine Rb.till_take (i := 16) (oi := ⟨some 24, .load 22 (.tmp 23), 22, "sketch.go:125", #[⟨15, .data⟩], none⟩) (v := ?_) rfl (by kernel_rfl) (by kernel_rfl) (by kernel_rfl) (fun _ _ _ h => h) (by decide) opA rfl (by kernel_rfl) (by kernel_rfl) (Or.inl ⟨by first | kernel_rfl | rfl, ?_⟩) (by assumption) ?_
    rotate_left
    · (intro w hSw; (try dsimp only at hSw); obtain ⟨d1, d2, d3, d4⟩ := hSw; go_simp; try with_reducible rfl)
    try simp only [Act.put, List.setIfInBounds_toArray, List.set_cons_zero, List.set_cons_succ]
    refine Rb.till_take (i := 17) (oi := ⟨some 25, .move (.tmp 1), 3, "sketch.go:125", #[], none⟩) (v := ?_) rfl (by kernel_rfl) (by kernel_rfl) (by kernel_rfl) (fun _ _ _ h => h) (by decide) opA rfl (by kernel_rfl) (by kernel_rfl) (Or.inl ⟨by first | kernel_rfl | rfl, ?_⟩) (by assumption) ?_
    rotate_left
    · (intro w hSw; (try dsimp only at hSw); obtain ⟨d1, d2, d3, d4⟩ := hSw; go_simp; try with_reducible rfl)
    try simp only [Act.put, List.setIfInBounds_toArray, List.set_cons_zero, List.set_cons_succ]
    refine Rb.till_take (i := 18) (oi := ⟨some 26, .indexAddr 22 (.tmp 24) (.tmp 25), 0, "sketch.go:125", #[⟨16, .data⟩, ⟨17, .data⟩], none⟩) (v := ?_) rfl (by kernel_rfl) (by kernel_rfl) (by kernel_rfl) (fun _ _ _ h => h) (by decide) opA rfl (by kernel_rfl) (by kernel_rfl) (Or.inl ⟨by first | kernel_rfl | rfl, ?_⟩) (by assumption) ?_
    rotate_left
    · (intro w hSw; (try dsimp only at hSw); obtain ⟨d1, d2, d3, d4⟩ := hSw; go_simp; try with_reducible rfl)
    try simp only [Act.put, List.setIfInBounds_toArray, List.set_cons_zero, List.set_cons_succ]
    refine Rb.till_take (i := 19) (oi := ⟨some 27, .load 3 (.tmp 26), 3, "sketch.go:125", #[⟨18, .data⟩], none⟩) (v := ?_) rfl (by kernel_rfl) (by kernel_rfl) (by kernel_rfl) (fun _ _ _ h => h) (by decide) opA rfl (by kernel_rfl) (by kernel_rfl) (Or.inl ⟨by first | kernel_rfl | rfl, ?_⟩) (by assumption) ?_
    rotate_left
    · (intro w hSw; (try dsimp only at hSw); obtain ⟨d1, d2, d3, d4⟩ := hSw; go_simp; try with_reducible rfl)
    try simp only [Act.put, List.setIfInBounds_toArray, List.set_cons_zero, List.set_cons_succ]
    refine Rb.till_take (i := 20) (oi := ⟨some 28, .binOp BinOp.mul 3 (.const (.int IntKind.i64 2097152)) (.tmp 27) 3, 3, "sketch.go:125", #[⟨19, .data⟩], none⟩) (v := ?_) rfl (by kernel_rfl) (by kernel_rfl) (by kernel_rfl) (fun _ _ _ h => h) (by decide) opA rfl (by kernel_rfl) (by kernel_rfl) (Or.inl ⟨by first | kernel_rfl | rfl, ?_⟩) (by assumption) ?_
    rotate_left
    · (intro w hSw; (try dsimp only at hSw); obtain ⟨d1, d2, d3, d4⟩ := hSw; go_simp; try with_reducible rfl)
    try simp only [Act.put, List.setIfInBounds_toArray, List.set_cons_zero, List.set_cons_succ]
    refine Rb.till_take (i := 21) (oi := ⟨some 29, .binOp BinOp.quo 3 (.tmp 20) (.tmp 28) 3, 3, "sketch.go:125", #[⟨12, .data⟩, ⟨20, .data⟩], none⟩) (v := ?_) rfl (by kernel_rfl) (by kernel_rfl) (by kernel_rfl) (fun _ _ _ h => h) (by decide) opA rfl (by kernel_rfl) (by kernel_rfl) (Or.inl ⟨by first | kernel_rfl | rfl, ?_⟩) (by assumption) ?_
    rotate_left
    · (intro w hSw; (try dsimp only at hSw); obtain ⟨d1, d2, d3, d4⟩ := hSw; go_simp; try with_reducible rfl)
    try simp only [Act.put, List.setIfInBounds_toArray, List.set_cons_zero, List.set_cons_succ]
    refine Rb.till_take (i := 22) (oi := ⟨some 30, .binOp BinOp.mul 3 (.tmp 15) (.tmp 29) 3, 3, "sketch.go:125", #[⟨7, .data⟩, ⟨21, .data⟩], none⟩) (v := ?_) rfl (by kernel_rfl) (by kernel_rfl) (by kernel_rfl) (fun _ _ _ h => h) (by decide) opA rfl (by kernel_rfl) (by kernel_rfl) (Or.inl ⟨by first | kernel_rfl | rfl, ?_⟩) (by assumption) ?_
    rotate_left
    · (intro w hSw; (try dsimp only at hSw); obtain ⟨d1, d2, d3, d4⟩ := hSw; go_simp; try with_reducible rfl)
    try simp only [Act.put, List.setIfInBounds_toArray, List.set_cons_zero, List.set_cons_succ]
    refine Rb.till_take (i := 23) (oi := ⟨some 31, .binOp BinOp.add 3 (.tmp 12) (.tmp 30) 3, 3, "sketch.go:125", #[⟨4, .data⟩, ⟨22, .data⟩], none⟩) (v := ?_) rfl (by kernel_rfl) (by kernel_rfl) (by kernel_rfl) (fun _ _ _ h => h) (by decide) opA rfl (by kernel_rfl) (by kernel_rfl) (Or.inl ⟨by first | kernel_rfl | rfl, ?_⟩) (by assumption) ?_
    rotate_left
    · (intro w hSw; (try dsimp only at hSw); obtain ⟨d1, d2, d3, d4⟩ := hSw; go_simp; try with_reducible rfl)
    try simp only [Act.put, List.setIfInBounds_toArray, List.set_cons_zero, List.set_cons_succ]
    refine Rb.till_free (i := 24) (oi := ⟨some 32, .nilCheck (.tmp 8), 0, "sketch.go:125", #[⟨0, .data⟩, ⟨0, .phase⟩, ⟨1, .phase⟩, ⟨2, .phase⟩, ⟨3, .phase⟩, ⟨4, .phase⟩, ⟨5, .phase⟩, ⟨6, .phase⟩, ⟨7, .phase⟩, ⟨8, .phase⟩, ⟨9, .phase⟩, ⟨10, .phase⟩, ⟨11, .phase⟩, ⟨12, .phase⟩, ⟨13, .phase⟩, ⟨14, .phase⟩, ⟨15, .phase⟩, ⟨16, .phase⟩, ⟨17, .phase⟩, ⟨18, .phase⟩, ⟨19, .phase⟩, ⟨20, .phase⟩, ⟨21, .phase⟩, ⟨22, .phase⟩, ⟨23, .phase⟩], none⟩) (v := ?_) rfl (by kernel_rfl) (by kernel_rfl) (by kernel_rfl) (fun _ _ _ h => h) (by decide) (Or.inl ⟨by first | kernel_rfl | rfl, ?_⟩) (fun _ => by assumption) ?_
    rotate_left
    · (intro w hSw; clear hSw; go_simp; try with_reducible rfl)
    try simp only [Act.put, List.setIfInBounds_toArray, List.set_cons_zero, List.set_cons_succ]
    refine Rb.till_free (i := 25) (oi := ⟨some 33, .fieldAddr 103 (.tmp 32) 0, 0, "sketch.go:125", #[⟨24, .data⟩, ⟨0, .phase⟩, ⟨1, .phase⟩, ⟨2, .phase⟩, ⟨3, .phase⟩, ⟨4, .phase⟩, ⟨5, .phase⟩, ⟨6, .phase⟩, ⟨7, .phase⟩, ⟨8, .phase⟩, ⟨9, .phase⟩, ⟨10, .phase⟩, ⟨11, .phase⟩, ⟨12, .phase⟩, ⟨13, .phase⟩, ⟨14, .phase⟩, ⟨15, .phase⟩, ⟨16, .phase⟩, ⟨17, .phase⟩, ⟨18, .phase⟩, ⟨19, .phase⟩, ⟨20, .phase⟩, ⟨21, .phase⟩, ⟨22, .phase⟩, ⟨23, .phase⟩], none⟩) (v := ?_) rfl (by kernel_rfl) (by kernel_rfl) (by kernel_rfl) (fun _ _ _ h => h) (by decide) (Or.inl ⟨by first | kernel_rfl | rfl, ?_⟩) (fun _ => by assumption) ?_
    rotate_left
    · (intro w hSw; clear hSw; go_simp; try with_reducible rfl)
    try simp only [Act.put, List.setIfInBounds_toArray, List.set_cons_zero, List.set_cons_succ]
    refine Rb.till_take (i := 26) (oi := ⟨some 34, .fieldAddr 101 (.tmp 33) 0, 0, "sketch.go:125", #[⟨25, .data⟩, ⟨0, .phase⟩, ⟨1, .phase⟩, ⟨2, .phase⟩, ⟨3, .phase⟩, ⟨4, .phase⟩, ⟨5, .phase⟩, ⟨6, .phase⟩, ⟨7, .phase⟩, ⟨8, .phase⟩, ⟨9, .phase⟩, ⟨10, .phase⟩, ⟨11, .phase⟩, ⟨12, .phase⟩, ⟨13, .phase⟩, ⟨14, .phase⟩, ⟨15, .phase⟩, ⟨16, .phase⟩, ⟨17, .phase⟩, ⟨18, .phase⟩, ⟨19, .phase⟩, ⟨20, .phase⟩, ⟨21, .phase⟩, ⟨22, .phase⟩, ⟨23, .phase⟩], none⟩) (v := ?_) rfl (by kernel_rfl) (by kernel_rfl) (by kernel_rfl) (fun _ _ _ h => h) (by decide) opA rfl (by kernel_rfl) (by kernel_rfl) (Or.inl ⟨by first | kernel_rfl | rfl, ?_⟩) (by assumption) ?_
    rotate_left
    · (intro w hSw; (try dsimp only at hSw); obtain ⟨d1, d2, d3, d4⟩ := hSw; go_simp; try with_reducible rfl)
    try simp only [Act.put, List.setIfInBounds_toArray, List.set_cons_zero, List.set_cons_succ]
    refine Rb.till_ready (rs := [27]) (by kernel_rfl) (by simp) ?_
    refine Rb.AllT.past (o := ⟨none, .store 3 (.tmp 34) (.tmp 31), 0, "sketch.go:125", #[⟨26, .data⟩, ⟨23, .data⟩, ⟨0, .phase⟩, ⟨1, .phase⟩, ⟨2, .phase⟩, ⟨3, .phase⟩, ⟨4, .phase⟩, ⟨5, .phase⟩, ⟨6, .phase⟩, ⟨7, .phase⟩, ⟨8, .phase⟩, ⟨9, .phase⟩, ⟨10, .phase⟩, ⟨11, .phase⟩, ⟨12, .phase⟩, ⟨13, .phase⟩, ⟨14, .phase⟩, ⟨15, .phase⟩, ⟨16, .phase⟩, ⟨17, .phase⟩, ⟨18, .phase⟩, ⟨19, .phase⟩, ⟨20, .phase⟩, ⟨21, .phase⟩, ⟨22, .phase⟩, ⟨23, .phase⟩], none⟩) rfl (by kernel_rfl) (fun K hK => ?_) (Rb.AllT.nil)
    · go_simp
      try go_wp2_with fail
      refine hK.out _ _ trivial (fun hH1 => ?_)
      clear hK K hH0
      try simp only [Act.put, List.setIfInBounds_toArray, List.set_cons_zero, List.set_cons_succ]
      refine Rb.till_done (by kernel_rfl) ?_ _
      refine NoPanic.normal ?_
      go_wp2_with fail
      go_end0
      exact ⟨rfl, (HK2.out.st 0 _).drw, (Ch.rf.st 0 _).drw⟩
  · subst hd
    obtain rfl : x = 16384 := by have := HX.out; omega
    obtain rfl : Y = 268435456 := by have := HYY.out; omega
    go_enter Try.func69, Try.ntmps69
    go_upto_region 1 with fail
    obtain ⟨w1, w2, w3, w4, w5, g0⟩ := HWS.out
    refine wp_region_noPanic ?_
    refine Rb.wp_region_till (S := fun W : World => W.cell? ⟨z, 0, none⟩ = some (.int .i64 num) ∧ W.cell? ⟨z, 1, none⟩ = some (.int .i64 D) ∧ W.cell? ⟨z, 2, none⟩ = some (.slice (some ⟨g, 0, none⟩) n n) ∧ W.cell? ⟨g, p, none⟩ = some (.int .i64 l)) 27 (by kernel_rfl) ?_ (fun hH0 => ?_)
    · (try dsimp only); exact KS.out _ (by repeat (first | exact Bel.rf | (with_reducible refine Bel.drwN ?_ _) | (with_reducible refine Bel.drw ?_) | (with_reducible refine Bel.al ?_ _)))
    refine Rb.till_take (i := 0) (oi := ⟨some 8, .move (.tmp 0), 128, "sketch.go:125", #[], none⟩) (v := ?_) rfl (by kernel_rfl) (by kernel_rfl) (by kernel_rfl) (fun _ _ _ h => h) (by decide) opA rfl (by kernel_rfl) (by kernel_rfl) (Or.inl ⟨by first | kernel_rfl | rfl, ?_⟩) (by assumption) ?_
    rotate_left
    · (intro w hSw; (try dsimp only at hSw); obtain ⟨d1, d2, d3, d4⟩ := hSw; go_simp; try with_reducible rfl)
    try simp only [Act.put, List.setIfInBounds_toArray, List.set_cons_zero, List.set_cons_succ]
    refine Rb.till_take (i := 1) (oi := ⟨some 9, .nilCheck (.tmp 8), 0, "sketch.go:125", #[⟨0, .data⟩], none⟩) (v := ?_) rfl (by kernel_rfl) (by kernel_rfl) (by kernel_rfl) (fun _ _ _ h => h) (by decide) opA rfl (by kernel_rfl) (by kernel_rfl) (Or.inl ⟨by first | kernel_rfl | rfl, ?_⟩) (by assumption) ?_
    rotate_left
    · (intro w hSw; (try dsimp only at hSw); obtain ⟨d1, d2, d3, d4⟩ := hSw; go_simp; try with_reducible rfl)
    try simp only [Act.put, List.setIfInBounds_toArray, List.set_cons_zero, List.set_cons_succ]
    refine Rb.till_take (i := 2) (oi := ⟨some 10, .fieldAddr 103 (.tmp 9) 0, 0, "sketch.go:125", #[⟨1, .data⟩], none⟩) (v := ?_) rfl (by kernel_rfl) (by kernel_rfl) (by kernel_rfl) (fun _ _ _ h => h) (by decide) opA rfl (by kernel_rfl) (by kernel_rfl) (Or.inl ⟨by first | kernel_rfl | rfl, ?_⟩) (by assumption) ?_
    rotate_left
    · (intro w hSw; (try dsimp only at hSw); obtain ⟨d1, d2, d3, d4⟩ := hSw; go_simp; try with_reducible rfl)
    try simp only [Act.put, List.setIfInBounds_toArray, List.set_cons_zero, List.set_cons_succ]
    refine Rb.till_take (i := 3) (oi := ⟨some 11, .fieldAddr 101 (.tmp 10) 0, 0, "sketch.go:125", #[⟨2, .data⟩], none⟩) (v := ?_) rfl (by kernel_rfl) (by kernel_rfl) (by kernel_rfl) (fun _ _ _ h => h) (by decide) opA rfl (by kernel_rfl) (by kernel_rfl) (Or.inl ⟨by first | kernel_rfl | rfl, ?_⟩) (by assumption) ?_
    rotate_left
    · (intro w hSw; (try dsimp only at hSw); obtain ⟨d1, d2, d3, d4⟩ := hSw; go_simp; try with_reducible rfl)
    try simp only [Act.put, List.setIfInBounds_toArray, List.set_cons_zero, List.set_cons_succ]
    refine Rb.till_take (i := 4) (oi := ⟨some 12, .load 3 (.tmp 11), 3, "sketch.go:125", #[⟨3, .data⟩], none⟩) (v := ?_) rfl (by kernel_rfl) (by kernel_rfl) (by kernel_rfl) (fun _ _ _ h => h) (by decide) opA rfl (by kernel_rfl) (by kernel_rfl) (Or.inl ⟨by first | kernel_rfl | rfl, ?_⟩) (by assumption) ?_
    rotate_left
    · (intro w hSw; (try dsimp only at hSw); obtain ⟨d1, d2, d3, d4⟩ := hSw; go_simp; try with_reducible rfl)
    try simp only [Act.put, List.setIfInBounds_toArray, List.set_cons_zero, List.set_cons_succ]
    refine Rb.till_take (i := 5) (oi := ⟨some 13, .move (.tmp 2), 3, "sketch.go:125", #[], none⟩) (v := ?_) rfl (by kernel_rfl) (by kernel_rfl) (by kernel_rfl) (fun _ _ _ h => h) (by decide) opA rfl (by kernel_rfl) (by kernel_rfl) (Or.inl ⟨by first | kernel_rfl | rfl, ?_⟩) (by assumption) ?_
    rotate_left
    · (intro w hSw; (try dsimp only at hSw); obtain ⟨d1, d2, d3, d4⟩ := hSw; go_simp; try with_reducible rfl)
    try simp only [Act.put, List.setIfInBounds_toArray, List.set_cons_zero, List.set_cons_succ]
    refine Rb.till_take (i := 6) (oi := ⟨some 14, .move (.tmp 2), 3, "sketch.go:125", #[], none⟩) (v := ?_) rfl (by kernel_rfl) (by kernel_rfl) (by kernel_rfl) (fun _ _ _ h => h) (by decide) opA rfl (by kernel_rfl) (by kernel_rfl) (Or.inl ⟨by first | kernel_rfl | rfl, ?_⟩) (by assumption) ?_
    rotate_left
    · (intro w hSw; (try dsimp only at hSw); obtain ⟨d1, d2, d3, d4⟩ := hSw; go_simp; try with_reducible rfl)
    try simp only [Act.put, List.setIfInBounds_toArray, List.set_cons_zero, List.set_cons_succ]
    refine Rb.till_take (i := 7) (oi := ⟨some 15, .binOp BinOp.mul 3 (.tmp 13) (.tmp 14) 3, 3, "sketch.go:125", #[⟨5, .data⟩, ⟨6, .data⟩], none⟩) (v := ?_) rfl (by kernel_rfl) (by kernel_rfl) (by kernel_rfl) (fun _ _ _ h => h) (by decide) opA rfl (by kernel_rfl) (by kernel_rfl) (Or.inl ⟨by first | kernel_rfl | rfl, ?_⟩) (by assumption) ?_
    rotate_left
    · (intro w hSw; (try dsimp only at hSw); obtain ⟨d1, d2, d3, d4⟩ := hSw; go_simp; try with_reducible rfl)
    try simp only [Act.put, List.setIfInBounds_toArray, List.set_cons_zero, List.set_cons_succ]
    refine Rb.till_take (i := 8) (oi := ⟨some 16, .move (.tmp 0), 128, "sketch.go:125", #[], none⟩) (v := ?_) rfl (by kernel_rfl) (by kernel_rfl) (by kernel_rfl) (fun _ _ _ h => h) (by decide) opA rfl (by kernel_rfl) (by kernel_rfl) (Or.inl ⟨by first | kernel_rfl | rfl, ?_⟩) (by assumption) ?_
    rotate_left
    · (intro w hSw; (try dsimp only at hSw); obtain ⟨d1, d2, d3, d4⟩ := hSw; go_simp; try with_reducible rfl)
    try simp only [Act.put, List.setIfInBounds_toArray, List.set_cons_zero, List.set_cons_succ]
    refine Rb.till_take (i := 9) (oi := ⟨some 17, .nilCheck (.tmp 16), 0, "sketch.go:125", #[⟨8, .data⟩], none⟩) (v := ?_) rfl (by kernel_rfl) (by kernel_rfl) (by kernel_rfl) (fun _ _ _ h => h) (by decide) opA rfl (by kernel_rfl) (by kernel_rfl) (Or.inl ⟨by first | kernel_rfl | rfl, ?_⟩) (by assumption) ?_
    rotate_left
    · (intro w hSw; (try dsimp only at hSw); obtain ⟨d1, d2, d3, d4⟩ := hSw; go_simp; try with_reducible rfl)
    try simp only [Act.put, List.setIfInBounds_toArray, List.set_cons_zero, List.set_cons_succ]
    refine Rb.till_take (i := 10) (oi := ⟨some 18, .fieldAddr 103 (.tmp 17) 0, 0, "sketch.go:125", #[⟨9, .data⟩], none⟩) (v := ?_) rfl (by kernel_rfl) (by kernel_rfl) (by kernel_rfl) (fun _ _ _ h => h) (by decide) opA rfl (by kernel_rfl) (by kernel_rfl) (Or.inl ⟨by first | kernel_rfl | rfl, ?_⟩) (by assumption) ?_
    rotate_left
    · (intro w hSw; (try dsimp only at hSw); obtain ⟨d1, d2, d3, d4⟩ := hSw; go_simp; try with_reducible rfl)
    try simp only [Act.put, List.setIfInBounds_toArray, List.set_cons_zero, List.set_cons_succ]
    refine Rb.till_take (i := 11) (oi := ⟨some 19, .fieldAddr 101 (.tmp 18) 1, 0, "sketch.go:125", #[⟨10, .data⟩], none⟩) (v := ?_) rfl (by kernel_rfl) (by kernel_rfl) (by kernel_rfl) (fun _ _ _ h => h) (by decide) opA rfl (by kernel_rfl) (by kernel_rfl) (Or.inl ⟨by first | kernel_rfl | rfl, ?_⟩) (by assumption) ?_
    rotate_left
    · (intro w hSw; (try dsimp only at hSw); obtain ⟨d1, d2, d3, d4⟩ := hSw; go_simp; try with_reducible rfl)
    try simp only [Act.put, List.setIfInBounds_toArray, List.set_cons_zero, List.set_cons_succ]
    refine Rb.till_take (i := 12) (oi := ⟨some 20, .load 3 (.tmp 19), 3, "sketch.go:125", #[⟨11, .data⟩], none⟩) (v := ?_) rfl (by kernel_rfl) (by kernel_rfl) (by kernel_rfl) (fun _ _ _ h => h) (by decide) opA rfl (by kernel_rfl) (by kernel_rfl) (Or.inl ⟨by first | kernel_rfl | rfl, ?_⟩) (by assumption) ?_
    rotate_left
    · (intro w hSw; (try dsimp only at hSw); obtain ⟨d1, d2, d3, d4⟩ := hSw; go_simp; try with_reducible rfl)
    try simp only [Act.put, List.setIfInBounds_toArray, List.set_cons_zero, List.set_cons_succ]
    refine Rb.till_take (i := 13) (oi := ⟨some 21, .move (.tmp 0), 128, "sketch.go:125", #[], none⟩) (v := ?_) rfl (by kernel_rfl) (by kernel_rfl) (by kernel_rfl) (fun _ _ _ h => h) (by decide) opA rfl (by kernel_rfl) (by kernel_rfl) (Or.inl ⟨by first | kernel_rfl | rfl, ?_⟩) (by assumption) ?_
    rotate_left
    · (intro w hSw; (try dsimp only at hSw); obtain ⟨d1, d2, d3, d4⟩ := hSw; go_simp; try with_reducible rfl)
    try simp only [Act.put, List.setIfInBounds_toArray, List.set_cons_zero, List.set_cons_succ]
    refine Rb.till_take (i := 14) (oi := ⟨some 22, .nilCheck (.tmp 21), 0, "sketch.go:125", #[⟨13, .data⟩], none⟩) (v := ?_) rfl (by kernel_rfl) (by kernel_rfl) (by kernel_rfl) (fun _ _ _ h => h) (by decide) opA rfl (by kernel_rfl) (by kernel_rfl) (Or.inl ⟨by first | kernel_rfl | rfl, ?_⟩) (by assumption) ?_
    rotate_left
    · (intro w hSw; (try dsimp only at hSw); obtain ⟨d1, d2, d3, d4⟩ := hSw; go_simp; try with_reducible rfl)
    try simp only [Act.put, List.setIfInBounds_toArray, List.set_cons_zero, List.set_cons_succ]
    refine Rb.till_take (i := 15) (oi := ⟨some 23, .fieldAddr 103 (.tmp 22) 1, 0, "sketch.go:125", #[⟨14, .data⟩], none⟩) (v := ?_) rfl (by kernel_rfl) (by kernel_rfl) (by kernel_rfl) (fun _ _ _ h => h) (by decide) opA rfl (by kernel_rfl) (by kernel_rfl) (Or.inl ⟨by first | kernel_rfl | rfl, ?_⟩) (by assumption) ?_
    rotate_left
    · (intro w hSw; (try dsimp only at hSw); obtain ⟨d1, d2, d3, d4⟩ := hSw; go_simp; try with_reducible rfl)
    try simp only [Act.put, List.setIfInBounds_toArray, List.set_cons_zero, List.set_cons_succ]
    refine Rb.till_take (i := 16) (oi := ⟨some 24, .load 22 (.tmp 23), 22, "sketch.go:125", #[⟨15, .data⟩], none⟩) (v := ?_) rfl (by kernel_rfl) (by kernel_rfl) (by kernel_rfl) (fun _ _ _ h => h) (by decide) opA rfl (by kernel_rfl) (by kernel_rfl) (Or.inl ⟨by first | kernel_rfl | rfl, ?_⟩) (by assumption) ?_
    rotate_left
    · (intro w hSw; (try dsimp only at hSw); obtain ⟨d1, d2, d3, d4⟩ := hSw; go_simp; try with_reducible rfl)
    try simp only [Act.put, List.setIfInBounds_toArray, List.set_cons_zero, List.set_cons_succ]
    refine Rb.till_take (i := 17) (oi := ⟨some 25, .move (.tmp 1), 3, "sketch.go:125", #[], none⟩) (v := ?_) rfl (by kernel_rfl) (by kernel_rfl) (by kernel_rfl) (fun _ _ _ h => h) (by decide) opA rfl (by kernel_rfl) (by kernel_rfl) (Or.inl ⟨by first | kernel_rfl | rfl, ?_⟩) (by assumption) ?_
    rotate_left
    · (intro w hSw; (try dsimp only at hSw); obtain ⟨d1, d2, d3, d4⟩ := hSw; go_simp; try with_reducible rfl)
    try simp only [Act.put, List.setIfInBounds_toArray, List.set_cons_zero, List.set_cons_succ]
    refine Rb.till_take (i := 18) (oi := ⟨some 26, .indexAddr 22 (.tmp 24) (.tmp 25), 0, "sketch.go:125", #[⟨16, .data⟩, ⟨17, .data⟩], none⟩) (v := ?_) rfl (by kernel_rfl) (by kernel_rfl) (by kernel_rfl) (fun _ _ _ h => h) (by decide) opA rfl (by kernel_rfl) (by kernel_rfl) (Or.inl ⟨by first | kernel_rfl | rfl, ?_⟩) (by assumption) ?_
    rotate_left
    · (intro w hSw; (try dsimp only at hSw); obtain ⟨d1, d2, d3, d4⟩ := hSw; go_simp; try with_reducible rfl)
    try simp only [Act.put, List.setIfInBounds_toArray, List.set_cons_zero, List.set_cons_succ]
    refine Rb.till_take (i := 19) (oi := ⟨some 27, .load 3 (.tmp 26), 3, "sketch.go:125", #[⟨18, .data⟩], none⟩) (v := ?_) rfl (by kernel_rfl) (by kernel_rfl) (by kernel_rfl) (fun _ _ _ h => h) (by decide) opA rfl (by kernel_rfl) (by kernel_rfl) (Or.inl ⟨by first | kernel_rfl | rfl, ?_⟩) (by assumption) ?_
    rotate_left
    · (intro w hSw; (try dsimp only at hSw); obtain ⟨d1, d2, d3, d4⟩ := hSw; go_simp; try with_reducible rfl)
    try simp only [Act.put, List.setIfInBounds_toArray, List.set_cons_zero, List.set_cons_succ]
    refine Rb.till_take (i := 20) (oi := ⟨some 28, .binOp BinOp.mul 3 (.const (.int IntKind.i64 2097152)) (.tmp 27) 3, 3, "sketch.go:125", #[⟨19, .data⟩], none⟩) (v := ?_) rfl (by kernel_rfl) (by kernel_rfl) (by kernel_rfl) (fun _ _ _ h => h) (by decide) opA rfl (by kernel_rfl) (by kernel_rfl) (Or.inl ⟨by first | kernel_rfl | rfl, ?_⟩) (by assumption) ?_
    rotate_left
    · (intro w hSw; (try dsimp only at hSw); obtain ⟨d1, d2, d3, d4⟩ := hSw; go_simp; try with_reducible rfl)
    try simp only [Act.put, List.setIfInBounds_toArray, List.set_cons_zero, List.set_cons_succ]
    refine Rb.till_take (i := 21) (oi := ⟨some 29, .binOp BinOp.quo 3 (.tmp 20) (.tmp 28) 3, 3, "sketch.go:125", #[⟨12, .data⟩, ⟨20, .data⟩], none⟩) (v := ?_) rfl (by kernel_rfl) (by kernel_rfl) (by kernel_rfl) (fun _ _ _ h => h) (by decide) opA rfl (by kernel_rfl) (by kernel_rfl) (Or.inl ⟨by first | kernel_rfl | rfl, ?_⟩) (by assumption) ?_
    rotate_left
    · (intro w hSw; (try dsimp only at hSw); obtain ⟨d1, d2, d3, d4⟩ := hSw; go_simp; try with_reducible rfl)
    try simp only [Act.put, List.setIfInBounds_toArray, List.set_cons_zero, List.set_cons_succ]
    refine Rb.till_take (i := 22) (oi := ⟨some 30, .binOp BinOp.mul 3 (.tmp 15) (.tmp 29) 3, 3, "sketch.go:125", #[⟨7, .data⟩, ⟨21, .data⟩], none⟩) (v := ?_) rfl (by kernel_rfl) (by kernel_rfl) (by kernel_rfl) (fun _ _ _ h => h) (by decide) opA rfl (by kernel_rfl) (by kernel_rfl) (Or.inl ⟨by first | kernel_rfl | rfl, ?_⟩) (by assumption) ?_
    rotate_left
    · (intro w hSw; (try dsimp only at hSw); obtain ⟨d1, d2, d3, d4⟩ := hSw; go_simp; try with_reducible rfl)
    try simp only [Act.put, List.setIfInBounds_toArray, List.set_cons_zero, List.set_cons_succ]
    refine Rb.till_take (i := 23) (oi := ⟨some 31, .binOp BinOp.add 3 (.tmp 12) (.tmp 30) 3, 3, "sketch.go:125", #[⟨4, .data⟩, ⟨22, .data⟩], none⟩) (v := ?_) rfl (by kernel_rfl) (by kernel_rfl) (by kernel_rfl) (fun _ _ _ h => h) (by decide) opA rfl (by kernel_rfl) (by kernel_rfl) (Or.inl ⟨by first | kernel_rfl | rfl, ?_⟩) (by assumption) ?_
    rotate_left
    · (intro w hSw; (try dsimp only at hSw); obtain ⟨d1, d2, d3, d4⟩ := hSw; go_simp; try with_reducible rfl)
    try simp only [Act.put, List.setIfInBounds_toArray, List.set_cons_zero, List.set_cons_succ]
    refine Rb.till_free (i := 24) (oi := ⟨some 32, .nilCheck (.tmp 8), 0, "sketch.go:125", #[⟨0, .data⟩, ⟨0, .phase⟩, ⟨1, .phase⟩, ⟨2, .phase⟩, ⟨3, .phase⟩, ⟨4, .phase⟩, ⟨5, .phase⟩, ⟨6, .phase⟩, ⟨7, .phase⟩, ⟨8, .phase⟩, ⟨9, .phase⟩, ⟨10, .phase⟩, ⟨11, .phase⟩, ⟨12, .phase⟩, ⟨13, .phase⟩, ⟨14, .phase⟩, ⟨15, .phase⟩, ⟨16, .phase⟩, ⟨17, .phase⟩, ⟨18, .phase⟩, ⟨19, .phase⟩, ⟨20, .phase⟩, ⟨21, .phase⟩, ⟨22, .phase⟩, ⟨23, .phase⟩], none⟩) (v := ?_) rfl (by kernel_rfl) (by kernel_rfl) (by kernel_rfl) (fun _ _ _ h => h) (by decide) (Or.inl ⟨by first | kernel_rfl | rfl, ?_⟩) (fun _ => by assumption) ?_
    rotate_left
    · (intro w hSw; clear hSw; go_simp; try with_reducible rfl)
    try simp only [Act.put, List.setIfInBounds_toArray, List.set_cons_zero, List.set_cons_succ]
    refine Rb.till_free (i := 25) (oi := ⟨some 33, .fieldAddr 103 (.tmp 32) 0, 0, "sketch.go:125", #[⟨24, .data⟩, ⟨0, .phase⟩, ⟨1, .phase⟩, ⟨2, .phase⟩, ⟨3, .phase⟩, ⟨4, .phase⟩, ⟨5, .phase⟩, ⟨6, .phase⟩, ⟨7, .phase⟩, ⟨8, .phase⟩, ⟨9, .phase⟩, ⟨10, .phase⟩, ⟨11, .phase⟩, ⟨12, .phase⟩, ⟨13, .phase⟩, ⟨14, .phase⟩, ⟨15, .phase⟩, ⟨16, .phase⟩, ⟨17, .phase⟩, ⟨18, .phase⟩, ⟨19, .phase⟩, ⟨20, .phase⟩, ⟨21, .phase⟩, ⟨22, .phase⟩, ⟨23, .phase⟩], none⟩) (v := ?_) rfl (by kernel_rfl) (by kernel_rfl) (by kernel_rfl) (fun _ _ _ h => h) (by decide) (Or.inl ⟨by first | kernel_rfl | rfl, ?_⟩) (fun _ => by assumption) ?_
    rotate_left
    · (intro w hSw; clear hSw; go_simp; try with_reducible rfl)
    try simp only [Act.put, List.setIfInBounds_toArray, List.set_cons_zero, List.set_cons_succ]
    refine Rb.till_take (i := 26) (oi := ⟨some 34, .fieldAddr 101 (.tmp 33) 0, 0, "sketch.go:125", #[⟨25, .data⟩, ⟨0, .phase⟩, ⟨1, .phase⟩, ⟨2, .phase⟩, ⟨3, .phase⟩, ⟨4, .phase⟩, ⟨5, .phase⟩, ⟨6, .phase⟩, ⟨7, .phase⟩, ⟨8, .phase⟩, ⟨9, .phase⟩, ⟨10, .phase⟩, ⟨11, .phase⟩, ⟨12, .phase⟩, ⟨13, .phase⟩, ⟨14, .phase⟩, ⟨15, .phase⟩, ⟨16, .phase⟩, ⟨17, .phase⟩, ⟨18, .phase⟩, ⟨19, .phase⟩, ⟨20, .phase⟩, ⟨21, .phase⟩, ⟨22, .phase⟩, ⟨23, .phase⟩], none⟩) (v := ?_) rfl (by kernel_rfl) (by kernel_rfl) (by kernel_rfl) (fun _ _ _ h => h) (by decide) opA rfl (by kernel_rfl) (by kernel_rfl) (Or.inl ⟨by first | kernel_rfl | rfl, ?_⟩) (by assumption) ?_
    rotate_left
    · (intro w hSw; (try dsimp only at hSw); obtain ⟨d1, d2, d3, d4⟩ := hSw; go_simp; try with_reducible rfl)
    try simp only [Act.put, List.setIfInBounds_toArray, List.set_cons_zero, List.set_cons_succ]
    refine Rb.till_ready (rs := [27]) (by kernel_rfl) (by simp) ?_
    refine Rb.AllT.past (o := ⟨none, .store 3 (.tmp 34) (.tmp 31), 0, "sketch.go:125", #[⟨26, .data⟩, ⟨23, .data⟩, ⟨0, .phase⟩, ⟨1, .phase⟩, ⟨2, .phase⟩, ⟨3, .phase⟩, ⟨4, .phase⟩, ⟨5, .phase⟩, ⟨6, .phase⟩, ⟨7, .phase⟩, ⟨8, .phase⟩, ⟨9, .phase⟩, ⟨10, .phase⟩, ⟨11, .phase⟩, ⟨12, .phase⟩, ⟨13, .phase⟩, ⟨14, .phase⟩, ⟨15, .phase⟩, ⟨16, .phase⟩, ⟨17, .phase⟩, ⟨18, .phase⟩, ⟨19, .phase⟩, ⟨20, .phase⟩, ⟨21, .phase⟩, ⟨22, .phase⟩, ⟨23, .phase⟩], none⟩) rfl (by kernel_rfl) (fun K hK => ?_) (Rb.AllT.nil)
    · go_simp
      try go_wp2_with fail
      refine hK.out _ _ trivial (fun hH1 => ?_)
      clear hK K hH0
      try simp only [Act.put, List.setIfInBounds_toArray, List.set_cons_zero, List.set_cons_succ]
      refine Rb.till_done (by kernel_rfl) ?_ _
      refine NoPanic.normal ?_
      go_wp2_with fail
      go_end0
      exact ⟨rfl, (HK2.out.st 0 _).drw, (Ch.rf.st 0 _).drw⟩
  · obtain rfl : x = 16384 := by have := HX.out; omega
    obtain rfl : Y = 268435456 := by have := HYY.out; omega
    go_enter Try.func69, Try.ntmps69
    go_upto_region 1 with fail
    obtain ⟨w1, w2, w3, w4, w5, g0⟩ := HWS.out
    refine wp_region_noPanic ?_
    refine Rb.wp_region_till (S := fun W : World => W.cell? ⟨z, 0, none⟩ = some (.int .i64 num) ∧ W.cell? ⟨z, 1, none⟩ = some (.int .i64 D) ∧ W.cell? ⟨z, 2, none⟩ = some (.slice (some ⟨g, 0, none⟩) n n) ∧ W.cell? ⟨g, p, none⟩ = some (.int .i64 l)) 27 (by kernel_rfl) ?_ (fun hH0 => ?_)
    · (try dsimp only); exact KS.out _ (by repeat (first | exact Bel.rf | (with_reducible refine Bel.drwN ?_ _) | (with_reducible refine Bel.drw ?_) | (with_reducible refine Bel.al ?_ _)))
    refine Rb.till_take (i := 0) (oi := ⟨some 8, .move (.tmp 0), 128, "sketch.go:125", #[], none⟩) (v := ?_) rfl (by kernel_rfl) (by kernel_rfl) (by kernel_rfl) (fun _ _ _ h => h) (by decide) opA rfl (by kernel_rfl) (by kernel_rfl) (Or.inl ⟨by first | kernel_rfl | rfl, ?_⟩) (by assumption) ?_
    rotate_left
    · (intro w hSw; (try dsimp only at hSw); obtain ⟨d1, d2, d3, d4⟩ := hSw; go_simp; try with_reducible rfl)
    try simp only [Act.put, List.setIfInBounds_toArray, List.set_cons_zero, List.set_cons_succ]
    refine Rb.till_take (i := 1) (oi := ⟨some 9, .nilCheck (.tmp 8), 0, "sketch.go:125", #[⟨0, .data⟩], none⟩) (v := ?_) rfl (by kernel_rfl) (by kernel_rfl) (by kernel_rfl) (fun _ _ _ h => h) (by decide) opA rfl (by kernel_rfl) (by kernel_rfl) (Or.inl ⟨by first | kernel_rfl | rfl, ?_⟩) (by assumption) ?_
    rotate_left
    · (intro w hSw; (try dsimp only at hSw); obtain ⟨d1, d2, d3, d4⟩ := hSw; go_simp; try with_reducible rfl)
    try simp only [Act.put, List.setIfInBounds_toArray, List.set_cons_zero, List.set_cons_succ]
    refine Rb.till_take (i := 2) (oi := ⟨some 10, .fieldAddr 103 (.tmp 9) 0, 0, "sketch.go:125", #[⟨1, .data⟩], none⟩) (v := ?_) rfl (by kernel_rfl) (by kernel_rfl) (by kernel_rfl) (fun _ _ _ h => h) (by decide) opA rfl (by kernel_rfl) (by kernel_rfl) (Or.inl ⟨by first | kernel_rfl | rfl, ?_⟩) (by assumption) ?_
    rotate_left
    · (intro w hSw; (try dsimp only at hSw); obtain ⟨d1, d2, d3, d4⟩ := hSw; go_simp; try with_reducible rfl)
    try simp only [Act.put, List.setIfInBounds_toArray, List.set_cons_zero, List.set_cons_succ]
    refine Rb.till_take (i := 3) (oi := ⟨some 11, .fieldAddr 101 (.tmp 10) 0, 0, "sketch.go:125", #[⟨2, .data⟩], none⟩) (v := ?_) rfl (by kernel_rfl) (by kernel_rfl) (by kernel_rfl) (fun _ _ _ h => h) (by decide) opA rfl (by kernel_rfl) (by kernel_rfl) (Or.inl ⟨by first | kernel_rfl | rfl, ?_⟩) (by assumption) ?_
    rotate_left
    · (intro w hSw; (try dsimp only at hSw); obtain ⟨d1, d2, d3, d4⟩ := hSw; go_simp; try with_reducible rfl)
    try simp only [Act.put, List.setIfInBounds_toArray, List.set_cons_zero, List.set_cons_succ]
    refine Rb.till_take (i := 4) (oi := ⟨some 12, .load 3 (.tmp 11), 3, "sketch.go:125", #[⟨3, .data⟩], none⟩) (v := ?_) rfl (by kernel_rfl) (by kernel_rfl) (by kernel_rfl) (fun _ _ _ h => h) (by decide) opA rfl (by kernel_rfl) (by kernel_rfl) (Or.inl ⟨by first | kernel_rfl | rfl, ?_⟩) (by assumption) ?_
    rotate_left
    · (intro w hSw; (try dsimp only at hSw); obtain ⟨d1, d2, d3, d4⟩ := hSw; go_simp; try with_reducible rfl)
    try simp only [Act.put, List.setIfInBounds_toArray, List.set_cons_zero, List.set_cons_succ]
    refine Rb.till_take (i := 5) (oi := ⟨some 13, .move (.tmp 2), 3, "sketch.go:125", #[], none⟩) (v := ?_) rfl (by kernel_rfl) (by kernel_rfl) (by kernel_rfl) (fun _ _ _ h => h) (by decide) opA rfl (by kernel_rfl) (by kernel_rfl) (Or.inl ⟨by first | kernel_rfl | rfl, ?_⟩) (by assumption) ?_
    rotate_left
    · (intro w hSw; (try dsimp only at hSw); obtain ⟨d1, d2, d3, d4⟩ := hSw; go_simp; try with_reducible rfl)
    try simp only [Act.put, List.setIfInBounds_toArray, List.set_cons_zero, List.set_cons_succ]
    refine Rb.till_take (i := 6) (oi := ⟨some 14, .move (.tmp 2), 3, "sketch.go:125", #[], none⟩) (v := ?_) rfl (by kernel_rfl) (by kernel_rfl) (by kernel_rfl) (fun _ _ _ h => h) (by decide) opA rfl (by kernel_rfl) (by kernel_rfl) (Or.inl ⟨by first | kernel_rfl | rfl, ?_⟩) (by assumption) ?_
    rotate_left
    · (intro w hSw; (try dsimp only at hSw); obtain ⟨d1, d2, d3, d4⟩ := hSw; go_simp; try with_reducible rfl)
    try simp only [Act.put, List.setIfInBounds_toArray, List.set_cons_zero, List.set_cons_succ]
    refine Rb.till_take (i := 7) (oi := ⟨some 15, .binOp BinOp.mul 3 (.tmp 13) (.tmp 14) 3, 3, "sketch.go:125", #[⟨5, .data⟩, ⟨6, .data⟩], none⟩) (v := ?_) rfl (by kernel_rfl) (by kernel_rfl) (by kernel_rfl) (fun _ _ _ h => h) (by decide) opA rfl (by kernel_rfl) (by kernel_rfl) (Or.inl ⟨by first | kernel_rfl | rfl, ?_⟩) (by assumption) ?_
    rotate_left
    · (intro w hSw; (try dsimp only at hSw); obtain ⟨d1, d2, d3, d4⟩ := hSw; go_simp; try with_reducible rfl)
    try simp only [Act.put, List.setIfInBounds_toArray, List.set_cons_zero, List.set_cons_succ]
    refine Rb.till_take (i := 8) (oi := ⟨some 16, .move (.tmp 0), 128, "sketch.go:125", #[], none⟩) (v := ?_) rfl (by kernel_rfl) (by kernel_rfl) (by kernel_rfl) (fun _ _ _ h => h) (by decide) opA rfl (by kernel_rfl) (by kernel_rfl) (Or.inl ⟨by first | kernel_rfl | rfl, ?_⟩) (by assumption) ?_
    rotate_left
    · (intro w hSw; (try dsimp only at hSw); obtain ⟨d1, d2, d3, d4⟩ := hSw; go_simp; try with_reducible rfl)
    try simp only [Act.put, List.setIfInBounds_toArray, List.set_cons_zero, List.set_cons_succ]
    refine Rb.till_take (i := 9) (oi := ⟨some 17, .nilCheck (.tmp 16), 0, "sketch.go:125", #[⟨8, .data⟩], none⟩) (v := ?_) rfl (by kernel_rfl) (by kernel_rfl) (by kernel_rfl) (fun _ _ _ h => h) (by decide) opA rfl (by kernel_rfl) (by kernel_rfl) (Or.inl ⟨by first | kernel_rfl | rfl, ?_⟩) (by assumption) ?_
    rotate_left
    · (intro w hSw; (try dsimp only at hSw); obtain ⟨d1, d2, d3, d4⟩ := hSw; go_simp; try with_reducible rfl)
    try simp only [Act.put, List.setIfInBounds_toArray, List.set_cons_zero, List.set_cons_succ]
    refine Rb.till_take (i := 10) (oi := ⟨some 18, .fieldAddr 103 (.tmp 17) 0, 0, "sketch.go:125", #[⟨9, .data⟩], none⟩) (v := ?_) rfl (by kernel_rfl) (by kernel_rfl) (by kernel_rfl) (fun _ _ _ h => h) (by decide) opA rfl (by kernel_rfl) (by kernel_rfl) (Or.inl ⟨by first | kernel_rfl | rfl, ?_⟩) (by assumption) ?_
    rotate_left
    · (intro w hSw; (try dsimp only at hSw); obtain ⟨d1, d2, d3, d4⟩ := hSw; go_simp; try with_reducible rfl)
    try simp only [Act.put, List.setIfInBounds_toArray, List.set_cons_zero, List.set_cons_succ]
    refine Rb.till_take (i := 11) (oi := ⟨some 19, .fieldAddr 101 (.tmp 18) 1, 0, "sketch.go:125", #[⟨10, .data⟩], none⟩) (v := ?_) rfl (by kernel_rfl) (by kernel_rfl) (by kernel_rfl) (fun _ _ _ h => h) (by decide) opA rfl (by kernel_rfl) (by kernel_rfl) (Or.inl ⟨by first | kernel_rfl | rfl, ?_⟩) (by assumption) ?_
    rotate_left
    · (intro w hSw; (try dsimp only at hSw); obtain ⟨d1, d2, d3, d4⟩ := hSw; go_simp; try with_reducible rfl)
    try simp only [Act.put, List.setIfInBounds_toArray, List.set_cons_zero, List.set_cons_succ]
    refine Rb.till_take (i := 12) (oi := ⟨some 20, .load 3 (.tmp 19), 3, "sketch.go:125", #[⟨11, .data⟩], none⟩) (v := ?_) rfl (by kernel_rfl) (by kernel_rfl) (by kernel_rfl) (fun _ _ _ h => h) (by decide) opA rfl (by kernel_rfl) (by kernel_rfl) (Or.inl ⟨by first | kernel_rfl | rfl, ?_⟩) (by assumption) ?_
    rotate_left
    · (intro w hSw; (try dsimp only at hSw); obtain ⟨d1, d2, d3, d4⟩ := hSw; go_simp; try with_reducible rfl)
    try simp only [Act.put, List.setIfInBounds_toArray, List.set_cons_zero, List.set_cons_succ]
    refine Rb.till_take (i := 13) (oi := ⟨some 21, .move (.tmp 0), 128, "sketch.go:125", #[], none⟩) (v := ?_) rfl (by kernel_rfl) (by kernel_rfl) (by kernel_rfl) (fun _ _ _ h => h) (by decide) opA rfl (by kernel_rfl) (by kernel_rfl) (Or.inl ⟨by first | kernel_rfl | rfl, ?_⟩) (by assumption) ?_
    rotate_left
    · (intro w hSw; (try dsimp only at hSw); obtain ⟨d1, d2, d3, d4⟩ := hSw; go_simp; try with_reducible rfl)
    try simp only [Act.put, List.setIfInBounds_toArray, List.set_cons_zero, List.set_cons_succ]
    refine Rb.till_take (i := 14) (oi := ⟨some 22, .nilCheck (.tmp 21), 0, "sketch.go:125", #[⟨13, .data⟩], none⟩) (v := ?_) rfl (by kernel_rfl) (by kernel_rfl) (by kernel_rfl) (fun _ _ _ h => h) (by decide) opA rfl (by kernel_rfl) (by kernel_rfl) (Or.inl ⟨by first | kernel_rfl | rfl, ?_⟩) (by assumption) ?_
    rotate_left
    · (intro w hSw; (try dsimp only at hSw); obtain ⟨d1, d2, d3, d4⟩ := hSw; go_simp; try with_reducible rfl)
    try simp only [Act.put, List.setIfInBounds_toArray, List.set_cons_zero, List.set_cons_succ]
    refine Rb.till_take (i := 15) (oi := ⟨some 23, .fieldAddr 103 (.tmp 22) 1, 0, "sketch.go:125", #[⟨14, .data⟩], none⟩) (v := ?_) rfl (by kernel_rfl) (by kernel_rfl) (by kernel_rfl) (fun _ _ _ h => h) (by decide) opA rfl (by kernel_rfl) (by kernel_rfl) (Or.inl ⟨by first | kernel_rfl | rfl, ?_⟩) (by assumption) ?_
    rotate_left
    · (intro w hSw; (try dsimp only at hSw); obtain ⟨d1, d2, d3, d4⟩ := hSw; go_simp; try with_reducible rfl)
    try simp only [Act.put, List.setIfInBounds_toArray, List.set_cons_zero, List.set_cons_succ]
    refine Rb.till_take (i := 16) (oi := ⟨some 24, .load 22 (.tmp 23), 22, "sketch.go:125", #[⟨15, .data⟩], none⟩) (v := ?_) rfl (by kernel_rfl) (by kernel_rfl) (by kernel_rfl) (fun _ _ _ h => h) (by decide) opA rfl (by kernel_rfl) (by kernel_rfl) (Or.inl ⟨by first | kernel_rfl | rfl, ?_⟩) (by assumption) ?_
    rotate_left
    · (intro w hSw; (try dsimp only at hSw); obtain ⟨d1, d2, d3, d4⟩ := hSw; go_simp; try with_reducible rfl)
    try simp only [Act.put, List.setIfInBounds_toArray, List.set_cons_zero, List.set_cons_succ]
    refine Rb.till_take (i := 17) (oi := ⟨some 25, .move (.tmp 1), 3, "sketch.go:125", #[], none⟩) (v := ?_) rfl (by kernel_rfl) (by kernel_rfl) (by kernel_rfl) (fun _ _ _ h => h) (by decide) opA rfl (by kernel_rfl) (by kernel_rfl) (Or.inl ⟨by first | kernel_rfl | rfl, ?_⟩) (by assumption) ?_
    rotate_left
    · (intro w hSw; (try dsimp only at hSw); obtain ⟨d1, d2, d3, d4⟩ := hSw; go_simp; try with_reducible rfl)
    try simp only [Act.put, List.setIfInBounds_toArray, List.set_cons_zero, List.set_cons_succ]
    refine Rb.till_take (i := 18) (oi := ⟨some 26, .indexAddr 22 (.tmp 24) (.tmp 25), 0, "sketch.go:125", #[⟨16, .data⟩, ⟨17, .data⟩], none⟩) (v := ?_) rfl (by kernel_rfl) (by kernel_rfl) (by kernel_rfl) (fun _ _ _ h => h) (by decide) opA rfl (by kernel_rfl) (by kernel_rfl) (Or.inl ⟨by first | kernel_rfl | rfl, ?_⟩) (by assumption) ?_
    rotate_left
    · (intro w hSw; (try dsimp only at hSw); obtain ⟨d1, d2, d3, d4⟩ := hSw; go_simp; try with_reducible rfl)
    try simp only [Act.put, List.setIfInBounds_toArray, List.set_cons_zero, List.set_cons_succ]
    refine Rb.till_take (i := 19) (oi := ⟨some 27, .load 3 (.tmp 26), 3, "sketch.go:125", #[⟨18, .data⟩], none⟩) (v := ?_) rfl (by kernel_rfl) (by kernel_rfl) (by kernel_rfl) (fun _ _ _ h => h) (by decide) opA rfl (by kernel_rfl) (by kernel_rfl) (Or.inl ⟨by first | kernel_rfl | rfl, ?_⟩) (by assumption) ?_
    rotate_left
    · (intro w hSw; (try dsimp only at hSw); obtain ⟨d1, d2, d3, d4⟩ := hSw; go_simp; try with_reducible rfl)
    try simp only [Act.put, List.setIfInBounds_toArray, List.set_cons_zero, List.set_cons_succ]
    refine Rb.till_take (i := 20) (oi := ⟨some 28, .binOp BinOp.mul 3 (.const (.int IntKind.i64 2097152)) (.tmp 27) 3, 3, "sketch.go:125", #[⟨19, .data⟩], none⟩) (v := ?_) rfl (by kernel_rfl) (by kernel_rfl) (by kernel_rfl) (fun _ _ _ h => h) (by decide) opA rfl (by kernel_rfl) (by kernel_rfl) (Or.inl ⟨by first | kernel_rfl | rfl, ?_⟩) (by assumption) ?_
    rotate_left
    · (intro w hSw; (try dsimp only at hSw); obtain ⟨d1, d2, d3, d4⟩ := hSw; go_simp; try with_reducible rfl)
    try simp only [Act.put, List.setIfInBounds_toArray, List.set_cons_zero, List.set_cons_succ]
    refine Rb.till_take (i := 21) (oi := ⟨some 29, .binOp BinOp.quo 3 (.tmp 20) (.tmp 28) 3, 3, "sketch.go:125", #[⟨12, .data⟩, ⟨20, .data⟩], none⟩) (v := ?_) rfl (by kernel_rfl) (by kernel_rfl) (by kernel_rfl) (fun _ _ _ h => h) (by decide) opA rfl (by kernel_rfl) (by kernel_rfl) (Or.inl ⟨by first | kernel_rfl | rfl, ?_⟩) (by assumption) ?_
    rotate_left
    · (intro w hSw; (try dsimp only at hSw); obtain ⟨d1, d2, d3, d4⟩ := hSw; go_simp; try with_reducible rfl)
    try simp only [Act.put, List.setIfInBounds_toArray, List.set_cons_zero, List.set_cons_succ]
    refine Rb.till_take (i := 22) (oi := ⟨some 30, .binOp BinOp.mul 3 (.tmp 15) (.tmp 29) 3, 3, "sketch.go:125", #[⟨7, .data⟩, ⟨21, .data⟩], none⟩) (v := ?_) rfl (by kernel_rfl) (by kernel_rfl) (by kernel_rfl) (fun _ _ _ h => h) (by decide) opA rfl (by kernel_rfl) (by kernel_rfl) (Or.inl ⟨by first | kernel_rfl | rfl, ?_⟩) (by assumption) ?_
    rotate_left
    · (intro w hSw; (try dsimp only at hSw); obtain ⟨d1, d2, d3, d4⟩ := hSw; go_simp; try with_reducible rfl)
    try simp only [Act.put, List.setIfInBounds_toArray, List.set_cons_zero, List.set_cons_succ]
    refine Rb.till_take (i := 23) (oi := ⟨some 31, .binOp BinOp.add 3 (.tmp 12) (.tmp 30) 3, 3, "sketch.go:125", #[⟨4, .data⟩, ⟨22, .data⟩], none⟩) (v := ?_) rfl (by kernel_rfl) (by kernel_rfl) (by kernel_rfl) (fun _ _ _ h => h) (by decide) opA rfl (by kernel_rfl) (by kernel_rfl) (Or.inl ⟨by first | kernel_rfl | rfl, ?_⟩) (by assumption) ?_
    rotate_left
    · (intro w hSw; (try dsimp only at hSw); obtain ⟨d1, d2, d3, d4⟩ := hSw; go_simp; try with_reducible rfl)
    try simp only [Act.put, List.setIfInBounds_toArray, List.set_cons_zero, List.set_cons_succ]
    refine Rb.till_free (i := 24) (oi := ⟨some 32, .nilCheck (.tmp 8), 0, "sketch.go:125", #[⟨0, .data⟩, ⟨0, .phase⟩, ⟨1, .phase⟩, ⟨2, .phase⟩, ⟨3, .phase⟩, ⟨4, .phase⟩, ⟨5, .phase⟩, ⟨6, .phase⟩, ⟨7, .phase⟩, ⟨8, .phase⟩, ⟨9, .phase⟩, ⟨10, .phase⟩, ⟨11, .phase⟩, ⟨12, .phase⟩, ⟨13, .phase⟩, ⟨14, .phase⟩, ⟨15, .phase⟩, ⟨16, .phase⟩, ⟨17, .phase⟩, ⟨18, .phase⟩, ⟨19, .phase⟩, ⟨20, .phase⟩, ⟨21, .phase⟩, ⟨22, .phase⟩, ⟨23, .phase⟩], none⟩) (v := ?_) rfl (by kernel_rfl) (by kernel_rfl) (by kernel_rfl) (fun _ _ _ h => h) (by decide) (Or.inl ⟨by first | kernel_rfl | rfl, ?_⟩) (fun _ => by assumption) ?_
    rotate_left
    · (intro w hSw; clear hSw; go_simp; try with_reducible rfl)
    try simp only [Act.put, List.setIfInBounds_toArray, List.set_cons_zero, List.set_cons_succ]
    refine Rb.till_free (i := 25) (oi := ⟨some 33, .fieldAddr 103 (.tmp 32) 0, 0, "sketch.go:125", #[⟨24, .data⟩, ⟨0, .phase⟩, ⟨1, .phase⟩, ⟨2, .phase⟩, ⟨3, .phase⟩, ⟨4, .phase⟩, ⟨5, .phase⟩, ⟨6, .phase⟩, ⟨7, .phase⟩, ⟨8, .phase⟩, ⟨9, .phase⟩, ⟨10, .phase⟩, ⟨11, .phase⟩, ⟨12, .phase⟩, ⟨13, .phase⟩, ⟨14, .phase⟩, ⟨15, .phase⟩, ⟨16, .phase⟩, ⟨17, .phase⟩, ⟨18, .phase⟩, ⟨19, .phase⟩, ⟨20, .phase⟩, ⟨21, .phase⟩, ⟨22, .phase⟩, ⟨23, .phase⟩], none⟩) (v := ?_) rfl (by kernel_rfl) (by kernel_rfl) (by kernel_rfl) (fun _ _ _ h => h) (by decide) (Or.inl ⟨by first | kernel_rfl | rfl, ?_⟩) (fun _ => by assumption) ?_
    rotate_left
    · (intro w hSw; clear hSw; go_simp; try with_reducible rfl)
    try simp only [Act.put, List.setIfInBounds_toArray, List.set_cons_zero, List.set_cons_succ]
    refine Rb.till_take (i := 26) (oi := ⟨some 34, .fieldAddr 101 (.tmp 33) 0, 0, "sketch.go:125", #[⟨25, .data⟩, ⟨0, .phase⟩, ⟨1, .phase⟩, ⟨2, .phase⟩, ⟨3, .phase⟩, ⟨4, .phase⟩, ⟨5, .phase⟩, ⟨6, .phase⟩, ⟨7, .phase⟩, ⟨8, .phase⟩, ⟨9, .phase⟩, ⟨10, .phase⟩, ⟨11, .phase⟩, ⟨12, .phase⟩, ⟨13, .phase⟩, ⟨14, .phase⟩, ⟨15, .phase⟩, ⟨16, .phase⟩, ⟨17, .phase⟩, ⟨18, .phase⟩, ⟨19, .phase⟩, ⟨20, .phase⟩, ⟨21, .phase⟩, ⟨22, .phase⟩, ⟨23, .phase⟩], none⟩) (v := ?_) rfl (by kernel_rfl) (by kernel_rfl) (by kernel_rfl) (fun _ _ _ h => h) (by decide) opA rfl (by kernel_rfl) (by kernel_rfl) (Or.inl ⟨by first | kernel_rfl | rfl, ?_⟩) (by assumption) ?_
    rotate_left
    · (intro w hSw; (try dsimp only at hSw); obtain ⟨d1, d2, d3, d4⟩ := hSw; go_simp; try with_reducible rfl)
    try simp only [Act.put, List.setIfInBounds_toArray, List.set_cons_zero, List.set_cons_succ]
    refine Rb.till_ready (rs := [27]) (by kernel_rfl) (by simp) ?_
    refine Rb.AllT.past (o := ⟨none, .store 3 (.tmp 34) (.tmp 31), 0, "sketch.go:125", #[⟨26, .data⟩, ⟨23, .data⟩, ⟨0, .phase⟩, ⟨1, .phase⟩, ⟨2, .phase⟩, ⟨3, .phase⟩, ⟨4, .phase⟩, ⟨5, .phase⟩, ⟨6, .phase⟩, ⟨7, .phase⟩, ⟨8, .phase⟩, ⟨9, .phase⟩, ⟨10, .phase⟩, ⟨11, .phase⟩, ⟨12, .phase⟩, ⟨13, .phase⟩, ⟨14, .phase⟩, ⟨15, .phase⟩, ⟨16, .phase⟩, ⟨17, .phase⟩, ⟨18, .phase⟩, ⟨19, .phase⟩, ⟨20, .phase⟩, ⟨21, .phase⟩, ⟨22, .phase⟩, ⟨23, .phase⟩], none⟩) rfl (by kernel_rfl) (fun K hK => ?_) (Rb.AllT.nil)
    · go_simp
      try go_wp2_with fail
      refine hK.out _ _ trivial (fun hH1 => ?_)
      clear hK K hH0
      try simp only [Act.put, List.setIfInBounds_toArray, List.set_cons_zero, List.set_cons_succ]
      refine Rb.till_done (by kernel_rfl) ?_ _
      refine NoPanic.normal ?_
      go_wp2_with fail
      go_end0
      exact ⟨rfl, (HK2.out.st 0 _).drw, (Ch.rf.st 0 _).drw⟩
end Go.Proofs.Ytgdhgeongdenpaa.Sk
namespace Go.Proofs.Ytgdhgeongdenpaa.Sk
open Go.ChangeShapes Go.WideShapes Go.RowKit Wo Sr Wi Nr Pc Eu Ra
open Wd (Rp rs rs_at rs_cons)
set_option linter.unusedVariables false
set_option linter.unusedSimpArgs false
def bH (num D : Int) : Int := max (D - num) (-D)
def bA (h : Int) : Int := if h < 0 then -h else h
def bT (num D : Int) : Int := D * D - bH num D * bA (bH num D)
theorem bH_in {num D : Int} (n0 : 0 ≤ num) (D1 : 1 ≤ D) : -D ≤ bH num D ∧ bH num D ≤ D := by unfold bH; omega
theorem bA_in {h D : Int} (h1 : -D ≤ h) (h2 : h ≤ D) : 0 ≤ bA h ∧ bA h ≤ D := by unfold bA; split <;> omega
theorem sgn_mono {x y : Int} (h : x ≤ y) : x * bA x ≤ y * bA y := by
  unfold bA
  by_cases hx : x < 0
  · rw [if_pos hx]
    by_cases hy : y < 0
    · rw [if_pos hy]
      have h1 : (-y) * (-y) ≤ (-x) * (-x) := Int.mul_le_mul (by omega) (by omega) (by omega) (by omega)
      have e1 : (-y) * (-y) = -(y * -y) := by grind
      have e2 : (-x) * (-x) = -(x * -x) := by grind
      omega
    · rw [if_neg hy]
      have h1 : 0 ≤ (-x) * (-x) := Int.mul_nonneg (by omega) (by omega)
      have h2 : 0 ≤ y * y := Int.mul_nonneg (by omega) (by omega)
      have e2 : (-x) * (-x) = -(x * -x) := by grind
      omega
  · rw [if_neg hx, if_neg (by omega)]
    exact Int.mul_le_mul h h (by omega) (by omega)
theorem bT_mono {a b D : Int} (h : a ≤ b) : bT a D ≤ bT b D := by
  unfold bT
  have : bH b D ≤ bH a D := by unfold bH; omega
  have := sgn_mono this
  omega
theorem bT_in {num D : Int} (n0 : 0 ≤ num) (D1 : 1 ≤ D) (D2 : D ≤ 1073741824) : 0 ≤ bT num D ∧ bT num D ≤ 2305843009213693952 ∧ 1 ≤ D * D ∧ D * D ≤ 1152921504606846976 ∧ -(D * D) ≤ bH num D * bA (bH num D) ∧ bH num D * bA (bH num D) ≤ D * D := by
  have h := bH_in n0 D1
  have d1 : D * D ≤ 1073741824 * 1073741824 := Int.mul_le_mul D2 D2 (by omega) (by decide)
  have d2 : 1 * 1 ≤ D * D := Int.mul_le_mul D1 D1 (by decide) (by omega)
  have m1 := sgn_mono h.1
  have m2 := sgn_mono h.2
  have e1 : (-D) * bA (-D) = -(D * D) := by unfold bA; rw [if_pos (by omega)]; grind
  have e2 : D * bA D = D * D := by unfold bA; rw [if_neg (by omega)]
  rw [e1] at m1
  rw [e2] at m2
  unfold bT
  omega
theorem abs_any (k : Int) (h0 : -1152921504606846976 ≤ k) (h1 : k ≤ 1152921504606846976) (w : World) : Calls Try.prog 106 #[.int .i64 k] w fun e w' => e = .returned (.int .i64 (bA k)) ∧ Bel w w' := by
  rcases Int.lt_or_le k 0 with h | h
  · have HE : Hid (bA k = -k) := if_pos h
    go_enter Try.func106, Try.ntmps106
    go_wp2
    go_ret
    exact ⟨congrArg (fun z => Ending.returned (.int .i64 z)) HE.out.symm, (by repeat (first | exact Bel.rf | (with_reducible refine Bel.drwN ?_ _) | (with_reducible refine Bel.drw ?_) | (with_reducible refine Bel.al ?_ _)))⟩
  · have HE : Hid (bA k = k) := if_neg (by omega)
    go_enter Try.func106, Try.ntmps106
    go_wp2
    go_ret
    exact ⟨congrArg (fun z => Ending.returned (.int .i64 z)) HE.out.symm, (by repeat (first | exact Bel.rf | (with_reducible refine Bel.drwN ?_ _) | (with_reducible refine Bel.drw ?_) | (with_reducible refine Bel.al ?_ _)))⟩
set_option maxHeartbeats 8000000 in
set_option maxRecDepth 100000 in
theorem bound_ok (num D : Int) (A : Option Addr) (n c : Nat) (n0 : 0 ≤ num) (nm1 : num ≤ 1152921504606846976) (D1 : 1 ≤ D) (D2 : D ≤ 1073741824) (w : World) :
    Calls Try.prog 70 #[.agg #[.int .i64 num, .int .i64 D, .slice A n c]] w fun e w' => (∃ t u, e = .returned (.tuple #[.agg #[.int .i64 t, .int .i64 u], .int .i64 0]) ∧ Vl t u (bT num D) (D * D)) ∧ Bel w w' := by
  have bi := bT_in n0 D1 D2
  have hi := bH_in n0 D1
  have mf := make_facts bi.1 bi.2.2.1 bi.2.1 bi.2.2.2.1
  have MK : Hid (∀ W, Calls Try.prog 66 #[.int .i64 (bT num D), .int .i64 (D * D)] W fun e w' => e = .returned (.tuple #[.agg #[.int .i64 (bT num D / gd (bT num D) (D * D)), .int .i64 (D * D / gd (bT num D) (D * D))], .int .i64 0]) ∧ Bel W w') := fun W => make_in _ _ W bi.1 bi.2.2.1 (rin_yes mf.2.2.2.2.2.2.1.1) (by omega) (by omega)
  have HVL : Hid (Vl (bT num D / gd (bT num D) (D * D)) (D * D / gd (bT num D) (D * D)) (bT num D) (D * D)) := ⟨mf.2.2.2.2.2.2.1, mf.2.2.2.2.2.2.2⟩
  have HHH : Hid (bH num D = max (D - num) (-D)) := rfl
  have HTT : Hid (bT num D = D * D - bH num D * bA (bH num D)) := rfl
  obtain ⟨h, hh⟩ : ∃ h, bH num D = h := ⟨_, rfl⟩
  rw [hh] at bi hi HHH HTT
  have AB : Hid (∀ W, Calls Try.prog 106 #[.int .i64 h] W fun e w' => e = .returned (.int .i64 (bA h)) ∧ Bel W w') := fun W => abs_any h (by omega) (by omega) W
  obtain ⟨ah, hah⟩ : ∃ x, bA h = x := ⟨_, rfl⟩
  rw [hah] at bi AB HTT
  obtain ⟨HH, hHH⟩ : ∃ x, h * ah = x := ⟨_, rfl⟩
  obtain ⟨E, hE⟩ : ∃ x, D * D = x := ⟨_, rfl⟩
  obtain ⟨T, hT⟩ : ∃ x, bT num D = x := ⟨_, rfl⟩
  rw [hT, hE] at bi MK HVL
  rw [hT, hE, hHH] at HTT
  rw [hHH] at bi
  rw [hT, hE]
  have w1 : IntKind.i64.wrap (D * D) = E := by rw [hE]; exact IntWalk.i64_in _ (by omega)
  have w2 : IntKind.i64.wrap (h * ah) = HH := by rw [hHH]; exact IntWalk.i64_in _ (by omega)
  have w3 : IntKind.i64.wrap (E - HH) = T := by rw [← HTT.out]; exact IntWalk.i64_in _ (by omega)
  have HWS := Lib.hid (And.intro w1 (And.intro w2 w3))
  obtain ⟨t, ht⟩ : ∃ t, T / gd T E = t := ⟨_, rfl⟩
  obtain ⟨u, hu⟩ : ∃ t, E / gd T E = t := ⟨_, rfl⟩
  rw [ht, hu] at MK HVL
  have HB0 : Hid (Bk ((w.alloc (.cells #[.int .i64 num, .int .i64 D, .slice A n c] 103)).alloc (.cells #[.int .i64 0, .int .i64 0] 69)) w.heap.size 103 #[.int .i64 num, .int .i64 D, .slice A n c]) := (Bk.nw _ _ _).al _
  have HR0 : Hid (Bk ((w.alloc (.cells #[.int .i64 num, .int .i64 D, .slice A n c] 103)).alloc (.cells #[.int .i64 0, .int .i64 0] 69)) (w.heap.size + 1) 69 #[.int .i64 0, .int .i64 0]) := Bk.nq _ _ _ (by simp)
  have HW0 : Hid (Bel w ((w.alloc (.cells #[.int .i64 num, .int .i64 D, .slice A n c] 103)).alloc (.cells #[.int .i64 0, .int .i64 0] 69))) := (Bel.rf.al _).al _
  have KS : Hid (∀ W, Bk W w.heap.size 103 #[.int .i64 num, .int .i64 D, .slice A n c] → W.cell? ⟨w.heap.size, 1, none⟩ = some (.int .i64 D)) := fun W hW => hW.cell 1
  clear bi mf w1 w2 w3 hh hah hHH hE hT ht hu
  rcases Int.lt_trichotomy (D - num) (-D) with hd | hd | hd
  · obtain rfl : h = -D := by have := HHH.out; omega
    go_enter Try.func70, Try.ntmps70
    go_upto_region 2 with fail
    obtain ⟨w1, w2, w3⟩ := HWS.out
    refine wp_region_noPanic ?_
    refine wp_region_held_drew (S := fun W : World => W.cell? ⟨w.heap.size, 1, none⟩ = some (.int .i64 D)) (by kernel_rfl) ?_ (fun hH0 => ?_)
    · (try dsimp only); exact KS.out _ (by repeat (first | exact HBB.out | exact HBA.out | exact HB0.out | (with_reducible refine Bk.drwN ?_ _) | (with_reducible refine Bk.drw ?_) | (with_reducible refine Bk.al ?_ _) | (with_reducible refine Bk.far ?_ (by dsimp only; omega) _)))
    refine wpAnyH_take (i := 0) (oi := ⟨some 17, .fieldAddr 103 (.tmp 1) 0, 0, "sketch.go:131", #[], none⟩) (v := ?_) rfl (by kernel_rfl) (by kernel_rfl) (by kernel_rfl) (fun _ _ _ h => h) (Or.inl ⟨by first | kernel_rfl | rfl, ?_⟩) (by assumption) ?_
    rotate_left
    · (intro w hSw; (try dsimp only at hSw); go_simp; try with_reducible rfl)
    try simp only [Act.put, List.setIfInBounds_toArray, List.set_cons_zero, List.set_cons_succ]
    refine wpAnyH_take (i := 1) (oi := ⟨some 18, .fieldAddr 101 (.tmp 17) 1, 0, "sketch.go:131", #[⟨0, .data⟩], none⟩) (v := ?_) rfl (by kernel_rfl) (by kernel_rfl) (by kernel_rfl) (fun _ _ _ h => h) (Or.inl ⟨by first | kernel_rfl | rfl, ?_⟩) (by assumption) ?_
    rotate_left
    · (intro w hSw; (try dsimp only at hSw); go_simp; try with_reducible rfl)
    try simp only [Act.put, List.setIfInBounds_toArray, List.set_cons_zero, List.set_cons_succ]
    refine wpAnyH_take (i := 2) (oi := ⟨some 19, .load 3 (.tmp 18), 3, "sketch.go:131", #[⟨1, .data⟩], none⟩) (v := ?_) rfl (by kernel_rfl) (by kernel_rfl) (by kernel_rfl) (fun _ _ _ h => h) (Or.inl ⟨by first | kernel_rfl | rfl, ?_⟩) (by assumption) ?_
    rotate_left
    · (intro w hSw; (try dsimp only at hSw); go_simp; try with_reducible rfl)
    try simp only [Act.put, List.setIfInBounds_toArray, List.set_cons_zero, List.set_cons_succ]
    refine wpAnyH_take (i := 3) (oi := ⟨some 20, .fieldAddr 103 (.tmp 1) 0, 0, "sketch.go:131", #[], none⟩) (v := ?_) rfl (by kernel_rfl) (by kernel_rfl) (by kernel_rfl) (fun _ _ _ h => h) (Or.inl ⟨by first | kernel_rfl | rfl, ?_⟩) (by assumption) ?_
    rotate_left
    · (intro w hSw; (try dsimp only at hSw); go_simp; try with_reducible rfl)
    try simp only [Act.put, List.setIfInBounds_toArray, List.set_cons_zero, List.set_cons_succ]
    refine wpAnyH_take (i := 4) (oi := ⟨some 21, .fieldAddr 101 (.tmp 20) 1, 0, "sketch.go:131", #[⟨3, .data⟩], none⟩) (v := ?_) rfl (by kernel_rfl) (by kernel_rfl) (by kernel_rfl) (fun _ _ _ h => h) (Or.inl ⟨by first | kernel_rfl | rfl, ?_⟩) (by assumption) ?_
    rotate_left
    · (intro w hSw; (try dsimp only at hSw); go_simp; try with_reducible rfl)
    try simp only [Act.put, List.setIfInBounds_toArray, List.set_cons_zero, List.set_cons_succ]
    refine wpAnyH_take (i := 5) (oi := ⟨some 22, .load 3 (.tmp 21), 3, "sketch.go:131", #[⟨4, .data⟩], none⟩) (v := ?_) rfl (by kernel_rfl) (by kernel_rfl) (by kernel_rfl) (fun _ _ _ h => h) (Or.inl ⟨by first | kernel_rfl | rfl, ?_⟩) (by assumption) ?_
    rotate_left
    · (intro w hSw; (try dsimp only at hSw); go_simp; try with_reducible rfl)
    try simp only [Act.put, List.setIfInBounds_toArray, List.set_cons_zero, List.set_cons_succ]
    refine wpAnyH_take (i := 6) (oi := ⟨some 23, .binOp BinOp.mul 3 (.tmp 19) (.tmp 22) 3, 3, "sketch.go:131", #[⟨2, .data⟩, ⟨5, .data⟩], none⟩) (v := ?_) rfl (by kernel_rfl) (by kernel_rfl) (by kernel_rfl) (fun _ _ _ h => h) (Or.inl ⟨by first | kernel_rfl | rfl, ?_⟩) (by assumption) ?_
    rotate_left
    · (intro w hSw; (try dsimp only at hSw); go_simp; try with_reducible rfl)
    try simp only [Act.put, List.setIfInBounds_toArray, List.set_cons_zero, List.set_cons_succ]
    refine wpAnyH_take (i := 7) (oi := ⟨some 24, .move (.tmp 4), 3, "sketch.go:131", #[], none⟩) (v := ?_) rfl (by kernel_rfl) (by kernel_rfl) (by kernel_rfl) (fun _ _ _ h => h) (Or.inl ⟨by first | kernel_rfl | rfl, ?_⟩) (by assumption) ?_
    rotate_left
    · (intro w hSw; (try dsimp only at hSw); go_simp; try with_reducible rfl)
    try simp only [Act.put, List.setIfInBounds_toArray, List.set_cons_zero, List.set_cons_succ]
    refine wpAnyH_take (i := 8) (oi := ⟨some 25, .move (.tmp 4), 3, "sketch.go:131", #[], none⟩) (v := ?_) rfl (by kernel_rfl) (by kernel_rfl) (by kernel_rfl) (fun _ _ _ h => h) (Or.inl ⟨by first | kernel_rfl | rfl, ?_⟩) (by assumption) ?_
    rotate_left
    · (intro w hSw; (try dsimp only at hSw); go_simp; try with_reducible rfl)
    try simp only [Act.put, List.setIfInBounds_toArray, List.set_cons_zero, List.set_cons_succ]
    refine wpAnyH_take (i := 12) (oi := ⟨some 29, .fieldAddr 103 (.tmp 1) 0, 0, "sketch.go:131", #[], none⟩) (v := ?_) rfl (by kernel_rfl) (by kernel_rfl) (by kernel_rfl) (fun _ _ _ h => h) (Or.inl ⟨by first | kernel_rfl | rfl, ?_⟩) (by assumption) ?_
    rotate_left
    · (intro w hSw; (try dsimp only at hSw); go_simp; try with_reducible rfl)
    try simp only [Act.put, List.setIfInBounds_toArray, List.set_cons_zero, List.set_cons_succ]
    refine wpAnyH_take (i := 13) (oi := ⟨some 30, .fieldAddr 101 (.tmp 29) 1, 0, "sketch.go:131", #[⟨12, .data⟩], none⟩) (v := ?_) rfl (by kernel_rfl) (by kernel_rfl) (by kernel_rfl) (fun _ _ _ h => h) (Or.inl ⟨by first | kernel_rfl | rfl, ?_⟩) (by assumption) ?_
    rotate_left
    · (intro w hSw; (try dsimp only at hSw); go_simp; try with_reducible rfl)
    try simp only [Act.put, List.setIfInBounds_toArray, List.set_cons_zero, List.set_cons_succ]
    refine wpAnyH_take (i := 14) (oi := ⟨some 31, .load 3 (.tmp 30), 3, "sketch.go:131", #[⟨13, .data⟩], none⟩) (v := ?_) rfl (by kernel_rfl) (by kernel_rfl) (by kernel_rfl) (fun _ _ _ h => h) (Or.inl ⟨by first | kernel_rfl | rfl, ?_⟩) (by assumption) ?_
    rotate_left
    · (intro w hSw; (try dsimp only at hSw); go_simp; try with_reducible rfl)
    try simp only [Act.put, List.setIfInBounds_toArray, List.set_cons_zero, List.set_cons_succ]
    refine wpAnyH_take (i := 15) (oi := ⟨some 32, .fieldAddr 103 (.tmp 1) 0, 0, "sketch.go:131", #[], none⟩) (v := ?_) rfl (by kernel_rfl) (by kernel_rfl) (by kernel_rfl) (fun _ _ _ h => h) (Or.inl ⟨by first | kernel_rfl | rfl, ?_⟩) (by assumption) ?_
    rotate_left
    · (intro w hSw; (try dsimp only at hSw); go_simp; try with_reducible rfl)
    try simp only [Act.put, List.setIfInBounds_toArray, List.set_cons_zero, List.set_cons_succ]
    refine wpAnyH_take (i := 16) (oi := ⟨some 33, .fieldAddr 101 (.tmp 32) 1, 0, "sketch.go:131", #[⟨15, .data⟩], none⟩) (v := ?_) rfl (by kernel_rfl) (by kernel_rfl) (by kernel_rfl) (fun _ _ _ h => h) (Or.inl ⟨by first | kernel_rfl | rfl, ?_⟩) (by assumption) ?_
    rotate_left
    · (intro w hSw; (try dsimp only at hSw); go_simp; try with_reducible rfl)
    try simp only [Act.put, List.setIfInBounds_toArray, List.set_cons_zero, List.set_cons_succ]
    refine wpAnyH_take (i := 17) (oi := ⟨some 34, .load 3 (.tmp 33), 3, "sketch.go:131", #[⟨16, .data⟩], none⟩) (v := ?_) rfl (by kernel_rfl) (by kernel_rfl) (by kernel_rfl) (fun _ _ _ h => h) (Or.inl ⟨by first | kernel_rfl | rfl, ?_⟩) (by assumption) ?_
    rotate_left
    · (intro w hSw; (try dsimp only at hSw); go_simp; try with_reducible rfl)
    try simp only [Act.put, List.setIfInBounds_toArray, List.set_cons_zero, List.set_cons_succ]
    refine wpAnyH_take (i := 18) (oi := ⟨some 35, .binOp BinOp.mul 3 (.tmp 31) (.tmp 34) 3, 3, "sketch.go:131", #[⟨14, .data⟩, ⟨17, .data⟩], none⟩) (v := ?_) rfl (by kernel_rfl) (by kernel_rfl) (by kernel_rfl) (fun _ _ _ h => h) (Or.inl ⟨by first | kernel_rfl | rfl, ?_⟩) (by assumption) ?_
    rotate_left
    · (intro w hSw; (try dsimp only at hSw); go_simp; try with_reducible rfl)
    try simp only [Act.put, List.setIfInBounds_toArray, List.set_cons_zero, List.set_cons_succ]
    refine wpAnyH_ready (rs := [9]) (by kernel_rfl) (by simp) ?_
    refine AllReadyH.cons (o := ⟨some 26, .call { callee := Callee.value (.func 106), args := #[.tmp 25], argTypes := #[3] }, 3, "sketch.go:131", #[⟨8, .data⟩], none⟩) rfl (fun K hK => ?_) AllReadyH.nil
    go_simp
    go_at_call 106; refine (AB.out _).mono ?_; rintro e wa ⟨rfl, hb⟩; have hba := Bel.tr ((by repeat (first | exact Bel.rf | (with_reducible refine Bel.drwN ?_ _) | (with_reducible refine Bel.drw ?_) | (with_reducible refine Bel.al ?_ _))) : Bel ((w.alloc (.cells #[.int .i64 num, .int .i64 D, .slice A n c] 103)).alloc (.cells #[.int .i64 0, .int .i64 0] 69)) _) hb; have HBA := Lib.hid (HB0.out.bel hba); have HRA := Lib.hid (HR0.out.bel hba); have HWA : Hid (Bel w wa) := HW0.out.tr hba; clear hb hba
    try go_wp2_with fail
    refine hK.out _ _ ?_ (fun hH1 => ?_)
    · (try dsimp only); exact KS.out _ (by repeat (first | exact HBB.out | exact HBA.out | exact HB0.out | (with_reducible refine Bk.drwN ?_ _) | (with_reducible refine Bk.drw ?_) | (with_reducible refine Bk.al ?_ _) | (with_reducible refine Bk.far ?_ (by dsimp only; omega) _)))
    clear hK K hH0
    try simp only [Act.put, List.setIfInBounds_toArray, List.set_cons_zero, List.set_cons_succ]
    refine wpAnyH_take (i := 10) (oi := ⟨some 27, .binOp BinOp.mul 3 (.tmp 24) (.tmp 26) 3, 3, "sketch.go:131", #[⟨7, .data⟩, ⟨9, .data⟩], none⟩) (v := ?_) rfl (by kernel_rfl) (by kernel_rfl) (by kernel_rfl) (fun _ _ _ h => h) (Or.inl ⟨by first | kernel_rfl | rfl, ?_⟩) (by assumption) ?_
    rotate_left
    · (intro w hSw; (try dsimp only at hSw); go_simp; try with_reducible rfl)
    try simp only [Act.put, List.setIfInBounds_toArray, List.set_cons_zero, List.set_cons_succ]
    refine wpAnyH_take (i := 11) (oi := ⟨some 28, .binOp BinOp.sub 3 (.tmp 23) (.tmp 27) 3, 3, "sketch.go:131", #[⟨6, .data⟩, ⟨10, .data⟩], none⟩) (v := ?_) rfl (by kernel_rfl) (by kernel_rfl) (by kernel_rfl) (fun _ _ _ h => h) (Or.inl ⟨by first | kernel_rfl | rfl, ?_⟩) (by assumption) ?_
    rotate_left
    · (intro w hSw; (try dsimp only at hSw); go_simp; try with_reducible rfl)
    try simp only [Act.put, List.setIfInBounds_toArray, List.set_cons_zero, List.set_cons_succ]
    refine wpAnyH_ready (rs := [19]) (by kernel_rfl) (by simp) ?_
    refine AllReadyH.cons (o := ⟨some 36, .call { callee := Callee.value (.func 66), args := #[.tmp 28, .tmp 35], argTypes := #[3, 3] }, 70, "sketch.go:131", #[⟨11, .data⟩, ⟨18, .data⟩, ⟨9, .chain⟩], none⟩) rfl (fun K hK => ?_) AllReadyH.nil
    go_simp
    go_at_call 66; refine (MK.out _).mono ?_; rintro e wb ⟨rfl, hb⟩; have hba := Bel.tr ((by repeat (first | exact Bel.rf | (with_reducible refine Bel.drwN ?_ _) | (with_reducible refine Bel.drw ?_) | (with_reducible refine Bel.al ?_ _))) : Bel wa _) hb; have HBB := Lib.hid (HBA.out.bel hba); have HRB := Lib.hid (HRA.out.bel hba); have HWB : Hid (Bel w wb) := HWA.out.tr hba; have y0 := HRB.out.cell 0; have y1 := HRB.out.cell 1; have z0 := HRB.out.fr 0; have z1 := HRB.out.fr 1; simp only [List.getElem?_toArray, List.getElem?_cons_zero, List.getElem?_cons_succ] at y0 y1; clear hb hba
    try go_wp2_with fail
    refine hK.out _ _ ?_ (fun hH2 => ?_)
    · (try dsimp only); exact KS.out _ (by repeat (first | exact HBB.out | exact HBA.out | exact HB0.out | (with_reducible refine Bk.drwN ?_ _) | (with_reducible refine Bk.drw ?_) | (with_reducible refine Bk.al ?_ _) | (with_reducible refine Bk.far ?_ (by dsimp only; omega) _)))
    clear hK K hH1
    try simp only [Act.put, List.setIfInBounds_toArray, List.set_cons_zero, List.set_cons_succ]
    refine wpAnyH_take (i := 20) (oi := ⟨some 37, .extract (.tmp 36) 0, 69, "sketch.go:131", #[⟨19, .data⟩], none⟩) (v := ?_) rfl (by kernel_rfl) (by kernel_rfl) (by kernel_rfl) (fun _ _ _ h => h) (Or.inl ⟨by first | kernel_rfl | rfl, ?_⟩) (by assumption) ?_
    rotate_left
    · (intro w hSw; (try dsimp only at hSw); go_simp; try with_reducible rfl)
    try simp only [Act.put, List.setIfInBounds_toArray, List.set_cons_zero, List.set_cons_succ]
    refine wpAnyH_take (i := 21) (oi := ⟨some 38, .extract (.tmp 36) 1, 33, "sketch.go:131", #[⟨19, .data⟩], none⟩) (v := ?_) rfl (by kernel_rfl) (by kernel_rfl) (by kernel_rfl) (fun _ _ _ h => h) (Or.inl ⟨by first | kernel_rfl | rfl, ?_⟩) (by assumption) ?_
    rotate_left
    · (intro w hSw; (try dsimp only at hSw); go_simp; try with_reducible rfl)
    try simp only [Act.put, List.setIfInBounds_toArray, List.set_cons_zero, List.set_cons_succ]
    refine wpAnyH_ready (rs := [22]) (by kernel_rfl) (by simp) ?_
    refine AllReadyH.cons (o := ⟨none, .store 69 (.tmp 2) (.tmp 37), 0, "sketch.go:131", #[⟨20, .data⟩, ⟨19, .chain⟩, ⟨0, .phase⟩, ⟨1, .phase⟩, ⟨2, .phase⟩, ⟨3, .phase⟩, ⟨4, .phase⟩, ⟨5, .phase⟩, ⟨6, .phase⟩, ⟨7, .phase⟩, ⟨8, .phase⟩, ⟨9, .phase⟩, ⟨10, .phase⟩, ⟨11, .phase⟩, ⟨12, .phase⟩, ⟨13, .phase⟩, ⟨14, .phase⟩, ⟨15, .phase⟩, ⟨16, .phase⟩, ⟨17, .phase⟩, ⟨18, .phase⟩, ⟨19, .phase⟩, ⟨20, .phase⟩, ⟨21, .phase⟩], none⟩) rfl (fun K hK => ?_) AllReadyH.nil
    go_simp
    skip
    try go_wp2_with fail
    refine hK.out _ _ ?_ (fun hH3 => ?_)
    · (try dsimp only); exact KS.out _ (by repeat (first | exact HBB.out | exact HBA.out | exact HB0.out | (with_reducible refine Bk.drwN ?_ _) | (with_reducible refine Bk.drw ?_) | (with_reducible refine Bk.al ?_ _) | (with_reducible refine Bk.far ?_ (by dsimp only; omega) _)))
    clear hK K hH2
    try simp only [Act.put, List.setIfInBounds_toArray, List.set_cons_zero, List.set_cons_succ]
    refine wpAnyH_take (i := 23) (oi := ⟨some 3, .assign (.tmp 38), 33, "sketch.go:131", #[⟨21, .data⟩, ⟨22, .chain⟩, ⟨0, .phase⟩, ⟨1, .phase⟩, ⟨2, .phase⟩, ⟨3, .phase⟩, ⟨4, .phase⟩, ⟨5, .phase⟩, ⟨6, .phase⟩, ⟨7, .phase⟩, ⟨8, .phase⟩, ⟨9, .phase⟩, ⟨10, .phase⟩, ⟨11, .phase⟩, ⟨12, .phase⟩, ⟨13, .phase⟩, ⟨14, .phase⟩, ⟨15, .phase⟩, ⟨16, .phase⟩, ⟨17, .phase⟩, ⟨18, .phase⟩, ⟨19, .phase⟩, ⟨20, .phase⟩, ⟨21, .phase⟩, ⟨22, .phase⟩], none⟩) (v := ?_) rfl (by kernel_rfl) (by kernel_rfl) (by kernel_rfl) (fun _ _ _ h => h) (Or.inl ⟨by first | kernel_rfl | rfl, ?_⟩) (by assumption) ?_
    rotate_left
    · (intro w hSw; (try dsimp only at hSw); go_simp; try with_reducible rfl)
    try simp only [Act.put, List.setIfInBounds_toArray, List.set_cons_zero, List.set_cons_succ]
    refine wpAnyH_done (by kernel_rfl) ?_ _
    refine NoPanic.normal ?_
    go_wp2_with fail
    exact bodyPost_ret (v := .tuple #[.agg #[.int .i64 t, .int .i64 u], .int .i64 0]) (results_rt Try.results70 _ _ (w.heap.size + 1) _ _ _ rfl rfl ((by repeat (first | exact (HRB.out.st 0 _).st 1 _ | (with_reducible refine Bk.drwN ?_ _) | (with_reducible refine Bk.drw ?_))))) rfl ⟨⟨t, u, rfl, HVL.out⟩, (by repeat (first | exact HWB.out | exact HWA.out | exact HW0.out | (with_reducible refine Bel.drwN ?_ _) | (with_reducible refine Bel.drw ?_) | (with_reducible refine Bel.al ?_ _) | ((with_reducible refine Bel.st2 ?_ ?_ _); (show _ ≤ _; dsimp only; omega))))⟩
  · obtain rfl : h = -D := by have := HHH.out; omega
    go_enter Try.func70, Try.ntmps70
    go_upto_region 2 with fail
    obtain ⟨w1, w2, w3⟩ := HWS.out
    refine wp_region_noPanic ?_
    refine wp_region_held_drew (S := fun W : World => W.cell? ⟨w.heap.size, 1, none⟩ = some (.int .i64 D)) (by kernel_rfl) ?_ (fun hH0 => ?_)
    · (try dsimp only); exact KS.out _ (by repeat (first | exact HBB.out | exact HBA.out | exact HB0.out | (with_reducible refine Bk.drwN ?_ _) | (with_reducible refine Bk.drw ?_) | (with_reducible refine Bk.al ?_ _) | (with_reducible refine Bk.far ?_ (by dsimp only; omega) _)))
    refine wpAnyH_take (i := 0) (oi := ⟨some 17, .fieldAddr 103 (.tmp 1) 0, 0, "sketch.go:131", #[], none⟩) (v := ?_) rfl (by kernel_rfl) (by kernel_rfl) (by kernel_rfl) (fun _ _ _ h => h) (Or.inl ⟨by first | kernel_rfl | rfl, ?_⟩) (by assumption) ?_
    rotate_left
    · (intro w hSw; (try dsimp only at hSw); go_simp; try with_reducible rfl)
    try simp only [Act.put, List.setIfInBounds_toArray, List.set_cons_zero, List.set_cons_succ]
    refine wpAnyH_take (i := 1) (oi := ⟨some 18, .fieldAddr 101 (.tmp 17) 1, 0, "sketch.go:131", #[⟨0, .data⟩], none⟩) (v := ?_) rfl (by kernel_rfl) (by kernel_rfl) (by kernel_rfl) (fun _ _ _ h => h) (Or.inl ⟨by first | kernel_rfl | rfl, ?_⟩) (by assumption) ?_
    rotate_left
    · (intro w hSw; (try dsimp only at hSw); go_simp; try with_reducible rfl)
    try simp only [Act.put, List.setIfInBounds_toArray, List.set_cons_zero, List.set_cons_succ]
    refine wpAnyH_take (i := 2) (oi := ⟨some 19, .load 3 (.tmp 18), 3, "sketch.go:131", #[⟨1, .data⟩], none⟩) (v := ?_) rfl (by kernel_rfl) (by kernel_rfl) (by kernel_rfl) (fun _ _ _ h => h) (Or.inl ⟨by first | kernel_rfl | rfl, ?_⟩) (by assumption) ?_
    rotate_left
    · (intro w hSw; (try dsimp only at hSw); go_simp; try with_reducible rfl)
    try simp only [Act.put, List.setIfInBounds_toArray, List.set_cons_zero, List.set_cons_succ]
    refine wpAnyH_take (i := 3) (oi := ⟨some 20, .fieldAddr 103 (.tmp 1) 0, 0, "sketch.go:131", #[], none⟩) (v := ?_) rfl (by kernel_rfl) (by kernel_rfl) (by kernel_rfl) (fun _ _ _ h => h) (Or.inl ⟨by first | kernel_rfl | rfl, ?_⟩) (by assumption) ?_
    rotate_left
    · (intro w hSw; (try dsimp only at hSw); go_simp; try with_reducible rfl)
    try simp only [Act.put, List.setIfInBounds_toArray, List.set_cons_zero, List.set_cons_succ]
    refine wpAnyH_take (i := 4) (oi := ⟨some 21, .fieldAddr 101 (.tmp 20) 1, 0, "sketch.go:131", #[⟨3, .data⟩], none⟩) (v := ?_) rfl (by kernel_rfl) (by kernel_rfl) (by kernel_rfl) (fun _ _ _ h => h) (Or.inl ⟨by first | kernel_rfl | rfl, ?_⟩) (by assumption) ?_
    rotate_left
    · (intro w hSw; (try dsimp only at hSw); go_simp; try with_reducible rfl)
    try simp only [Act.put, List.setIfInBounds_toArray, List.set_cons_zero, List.set_cons_succ]
    refine wpAnyH_take (i := 5) (oi := ⟨some 22, .load 3 (.tmp 21), 3, "sketch.go:131", #[⟨4, .data⟩], none⟩) (v := ?_) rfl (by kernel_rfl) (by kernel_rfl) (by kernel_rfl) (fun _ _ _ h => h) (Or.inl ⟨by first | kernel_rfl | rfl, ?_⟩) (by assumption) ?_
    rotate_left
    · (intro w hSw; (try dsimp only at hSw); go_simp; try with_reducible rfl)
    try simp only [Act.put, List.setIfInBounds_toArray, List.set_cons_zero, List.set_cons_succ]
    refine wpAnyH_take (i := 6) (oi := ⟨some 23, .binOp BinOp.mul 3 (.tmp 19) (.tmp 22) 3, 3, "sketch.go:131", #[⟨2, .data⟩, ⟨5, .data⟩], none⟩) (v := ?_) rfl (by kernel_rfl) (by kernel_rfl) (by kernel_rfl) (fun _ _ _ h => h) (Or.inl ⟨by first | kernel_rfl | rfl, ?_⟩) (by assumption) ?_
    rotate_left
    · (intro w hSw; (try dsimp only at hSw); go_simp; try with_reducible rfl)
    try simp only [Act.put, List.setIfInBounds_toArray, List.set_cons_zero, List.set_cons_succ]
    refine wpAnyH_take (i := 7) (oi := ⟨some 24, .move (.tmp 4), 3, "sketch.go:131", #[], none⟩) (v := ?_) rfl (by kernel_rfl) (by kernel_rfl) (by kernel_rfl) (fun _ _ _ h => h) (Or.inl ⟨by first | kernel_rfl | rfl, ?_⟩) (by assumption) ?_
    rotate_left
    · (intro w hSw; (try dsimp only at hSw); go_simp; try with_reducible rfl)
    try simp only [Act.put, List.setIfInBounds_toArray, List.set_cons_zero, List.set_cons_succ]
    refine wpAnyH_take (i := 8) (oi := ⟨some 25, .move (.tmp 4), 3, "sketch.go:131", #[], none⟩) (v := ?_) rfl (by kernel_rfl) (by kernel_rfl) (by kernel_rfl) (fun _ _ _ h => h) (Or.inl ⟨by first | kernel_rfl | rfl, ?_⟩) (by assumption) ?_
    rotate_left
    · (intro w hSw; (try dsimp only at hSw); go_simp; try with_reducible rfl)
    try simp only [Act.put, List.setIfInBounds_toArray, List.set_cons_zero, List.set_cons_succ]
    refine wpAnyH_take (i := 12) (oi := ⟨some 29, .fieldAddr 103 (.tmp 1) 0, 0, "sketch.go:131", #[], none⟩) (v := ?_) rfl (by kernel_rfl) (by kernel_rfl) (by kernel_rfl) (fun _ _ _ h => h) (Or.inl ⟨by first | kernel_rfl | rfl, ?_⟩) (by assumption) ?_
    rotate_left
    · (intro w hSw; (try dsimp only at hSw); go_simp; try with_reducible rfl)
    try simp only [Act.put, List.setIfInBounds_toArray, List.set_cons_zero, List.set_cons_succ]
    refine wpAnyH_take (i := 13) (oi := ⟨some 30, .fieldAddr 101 (.tmp 29) 1, 0, "sketch.go:131", #[⟨12, .data⟩], none⟩) (v := ?_) rfl (by kernel_rfl) (by kernel_rfl) (by kernel_rfl) (fun _ _ _ h => h) (Or.inl ⟨by first | kernel_rfl | rfl, ?_⟩) (by assumption) ?_
    rotate_left
    · (intro w hSw; (try dsimp only at hSw); go_simp; try with_reducible rfl)
    try simp only [Act.put, List.setIfInBounds_toArray, List.set_cons_zero, List.set_cons_succ]
    refine wpAnyH_take (i := 14) (oi := ⟨some 31, .load 3 (.tmp 30), 3, "sketch.go:131", #[⟨13, .data⟩], none⟩) (v := ?_) rfl (by kernel_rfl) (by kernel_rfl) (by kernel_rfl) (fun _ _ _ h => h) (Or.inl ⟨by first | kernel_rfl | rfl, ?_⟩) (by assumption) ?_
    rotate_left
    · (intro w hSw; (try dsimp only at hSw); go_simp; try with_reducible rfl)
    try simp only [Act.put, List.setIfInBounds_toArray, List.set_cons_zero, List.set_cons_succ]
    refine wpAnyH_take (i := 15) (oi := ⟨some 32, .fieldAddr 103 (.tmp 1) 0, 0, "sketch.go:131", #[], none⟩) (v := ?_) rfl (by kernel_rfl) (by kernel_rfl) (by kernel_rfl) (fun _ _ _ h => h) (Or.inl ⟨by first | kernel_rfl | rfl, ?_⟩) (by assumption) ?_
    rotate_left
    · (intro w hSw; (try dsimp only at hSw); go_simp; try with_reducible rfl)
    try simp only [Act.put, List.setIfInBounds_toArray, List.set_cons_zero, List.set_cons_succ]
    refine wpAnyH_take (i := 16) (oi := ⟨some 33, .fieldAddr 101 (.tmp 32) 1, 0, "sketch.go:131", #[⟨15, .data⟩], none⟩) (v := ?_) rfl (by kernel_rfl) (by kernel_rfl) (by kernel_rfl) (fun _ _ _ h => h) (Or.inl ⟨by first | kernel_rfl | rfl, ?_⟩) (by assumption) ?_
    rotate_left
    · (intro w hSw; (try dsimp only at hSw); go_simp; try with_reducible rfl)
    try simp only [Act.put, List.setIfInBounds_toArray, List.set_cons_zero, List.set_cons_succ]
    refine wpAnyH_take (i := 17) (oi := ⟨some 34, .load 3 (.tmp 33), 3, "sketch.go:131", #[⟨16, .data⟩], none⟩) (v := ?_) rfl (by kernel_rfl) (by kernel_rfl) (by kernel_rfl) (fun _ _ _ h => h) (Or.inl ⟨by first | kernel_rfl | rfl, ?_⟩) (by assumption) ?_
    rotate_left
    · (intro w hSw; (try dsimp only at hSw); go_simp; try with_reducible rfl)
    try simp only [Act.put, List.setIfInBounds_toArray, List.set_cons_zero, List.set_cons_succ]
    refine wpAnyH_take (i := 18) (oi := ⟨some 35, .binOp BinOp.mul 3 (.tmp 31) (.tmp 34) 3, 3, "sketch.go:131", #[⟨14, .data⟩, ⟨17, .data⟩], none⟩) (v := ?_) rfl (by kernel_rfl) (by kernel_rfl) (by kernel_rfl) (fun _ _ _ h => h) (Or.inl ⟨by first | kernel_rfl | rfl, ?_⟩) (by assumption) ?_
    rotate_left
    · (intro w hSw; (try dsimp only at hSw); go_simp; try with_reducible rfl)
    try simp only [Act.put, List.setIfInBounds_toArray, List.set_cons_zero, List.set_cons_succ]
    refine wpAnyH_ready (rs := [9]) (by kernel_rfl) (by simp) ?_
    refine AllReadyH.cons (o := ⟨some 26, .call { callee := Callee.value (.func 106), args := #[.tmp 25], argTypes := #[3] }, 3, "sketch.go:131", #[⟨8, .data⟩], none⟩) rfl (fun K hK => ?_) AllReadyH.nil
    go_simp
    go_at_call 106; refine (AB.out _).mono ?_; rintro e wa ⟨rfl, hb⟩; have hba := Bel.tr ((by repeat (first | exact Bel.rf | (with_reducible refine Bel.drwN ?_ _) | (with_reducible refine Bel.drw ?_) | (with_reducible refine Bel.al ?_ _))) : Bel ((w.alloc (.cells #[.int .i64 num, .int .i64 D, .slice A n c] 103)).alloc (.cells #[.int .i64 0, .int .i64 0] 69)) _) hb; have HBA := Lib.hid (HB0.out.bel hba); have HRA := Lib.hid (HR0.out.bel hba); have HWA : Hid (Bel w wa) := HW0.out.tr hba; clear hb hba
    try go_wp2_with fail
    refine hK.out _ _ ?_ (fun hH1 => ?_)
    · (try dsimp only); exact KS.out _ (by repeat (first | exact HBB.out | exact HBA.out | exact HB0.out | (with_reducible refine Bk.drwN ?_ _) | (with_reducible refine Bk.drw ?_) | (with_reducible refine Bk.al ?_ _) | (with_reducible refine Bk.far ?_ (by dsimp only; omega) _)))
    clear hK K hH0
    try simp only [Act.put, List.setIfInBounds_toArray, List.set_cons_zero, List.set_cons_succ]
    refine wpAnyH_take (i := 10) (oi := ⟨some 27, .binOp BinOp.mul 3 (.tmp 24) (.tmp 26) 3, 3, "sketch.go:131", #[⟨7, .data⟩, ⟨9, .data⟩], none⟩) (v := ?_) rfl (by kernel_rfl) (by kernel_rfl) (by kernel_rfl) (fun _ _ _ h => h) (Or.inl ⟨by first | kernel_rfl | rfl, ?_⟩) (by assumption) ?_
    rotate_left
    · (intro w hSw; (try dsimp only at hSw); go_simp; try with_reducible rfl)
    try simp only [Act.put, List.setIfInBounds_toArray, List.set_cons_zero, List.set_cons_succ]
    refine wpAnyH_take (i := 11) (oi := ⟨some 28, .binOp BinOp.sub 3 (.tmp 23) (.tmp 27) 3, 3, "sketch.go:131", #[⟨6, .data⟩, ⟨10, .data⟩], none⟩) (v := ?_) rfl (by kernel_rfl) (by kernel_rfl) (by kernel_rfl) (fun _ _ _ h => h) (Or.inl ⟨by first | kernel_rfl | rfl, ?_⟩) (by assumption) ?_
    rotate_left
    · (intro w hSw; (try dsimp only at hSw); go_simp; try with_reducible rfl)
    try simp only [Act.put, List.setIfInBounds_toArray, List.set_cons_zero, List.set_cons_succ]
    refine wpAnyH_ready (rs := [19]) (by kernel_rfl) (by simp) ?_
    refine AllReadyH.cons (o := ⟨some 36, .call { callee := Callee.value (.func 66), args := #[.tmp 28, .tmp 35], argTypes := #[3, 3] }, 70, "sketch.go:131", #[⟨11, .data⟩, ⟨18, .data⟩, ⟨9, .chain⟩], none⟩) rfl (fun K hK => ?_) AllReadyH.nil
    go_simp
    go_at_call 66; refine (MK.out _).mono ?_; rintro e wb ⟨rfl, hb⟩; have hba := Bel.tr ((by repeat (first | exact Bel.rf | (with_reducible refine Bel.drwN ?_ _) | (with_reducible refine Bel.drw ?_) | (with_reducible refine Bel.al ?_ _))) : Bel wa _) hb; have HBB := Lib.hid (HBA.out.bel hba); have HRB := Lib.hid (HRA.out.bel hba); have HWB : Hid (Bel w wb) := HWA.out.tr hba; have y0 := HRB.out.cell 0; have y1 := HRB.out.cell 1; have z0 := HRB.out.fr 0; have z1 := HRB.out.fr 1; simp only [List.getElem?_toArray, List.getElem?_cons_zero, List.getElem?_cons_succ] at y0 y1; clear hb hba
    try go_wp2_with fail
    refine hK.out _ _ ?_ (fun hH2 => ?_)
    · (try dsimp only); exact KS.out _ (by repeat (first | exact HBB.out | exact HBA.out | exact HB0.out | (with_reducible refine Bk.drwN ?_ _) | (with_reducible refine Bk.drw ?_) | (with_reducible refine Bk.al ?_ _) | (with_reducible refine Bk.far ?_ (by dsimp only; omega) _)))
    clear hK K hH1
    try simp only [Act.put, List.setIfInBounds_toArray, List.set_cons_zero, List.set_cons_succ]
    refine wpAnyH_take (i := 20) (oi := ⟨some 37, .extract (.tmp 36) 0, 69, "sketch.go:131", #[⟨19, .data⟩], none⟩) (v := ?_) rfl (by kernel_rfl) (by kernel_rfl) (by kernel_rfl) (fun _ _ _ h => h) (Or.inl ⟨by first | kernel_rfl | rfl, ?_⟩) (by assumption) ?_
    rotate_left
    · (intro w hSw; (try dsimp only at hSw); go_simp; try with_reducible rfl)
    try simp only [Act.put, List.setIfInBounds_toArray, List.set_cons_zero, List.set_cons_succ]
    refine wpAnyH_take (i := 21) (oi := ⟨some 38, .extract (.tmp 36) 1, 33, "sketch.go:131", #[⟨19, .data⟩], none⟩) (v := ?_) rfl (by kernel_rfl) (by kernel_rfl) (by kernel_rfl) (fun _ _ _ h => h) (Or.inl ⟨by first | kernel_rfl | rfl, ?_⟩) (by assumption) ?_
    rotate_left
    · (intro w hSw; (try dsimp only at hSw); go_simp; try with_reducible rfl)
    try simp only [Act.put, List.setIfInBounds_toArray, List.set_cons_zero, List.set_cons_succ]
    refine wpAnyH_ready (rs := [22]) (by kernel_rfl) (by simp) ?_
    refine AllReadyH.cons (o := ⟨none, .store 69 (.tmp 2) (.tmp 37), 0, "sketch.go:131", #[⟨20, .data⟩, ⟨19, .chain⟩, ⟨0, .phase⟩, ⟨1, .phase⟩, ⟨2, .phase⟩, ⟨3, .phase⟩, ⟨4, .phase⟩, ⟨5, .phase⟩, ⟨6, .phase⟩, ⟨7, .phase⟩, ⟨8, .phase⟩, ⟨9, .phase⟩, ⟨10, .phase⟩, ⟨11, .phase⟩, ⟨12, .phase⟩, ⟨13, .phase⟩, ⟨14, .phase⟩, ⟨15, .phase⟩, ⟨16, .phase⟩, ⟨17, .phase⟩, ⟨18, .phase⟩, ⟨19, .phase⟩, ⟨20, .phase⟩, ⟨21, .phase⟩], none⟩) rfl (fun K hK => ?_) AllReadyH.nil
    go_simp
    skip
    try go_wp2_with fail
    refine hK.out _ _ ?_ (fun hH3 => ?_)
    · (try dsimp only); exact KS.out _ (by repeat (first | exact HBB.out | exact HBA.out | exact HB0.out | (with_reducible refine Bk.drwN ?_ _) | (with_reducible refine Bk.drw ?_) | (with_reducible refine Bk.al ?_ _) | (with_reducible refine Bk.far ?_ (by dsimp only; omega) _)))
    clear hK K hH2
    try simp only [Act.put, List.setIfInBounds_toArray, List.set_cons_zero, List.set_cons_succ]
    refine wpAnyH_take (i := 23) (oi := ⟨some 3, .assign (.tmp 38), 33, "sketch.go:131", #[⟨21, .data⟩, ⟨22, .chain⟩, ⟨0, .phase⟩, ⟨1, .phase⟩, ⟨2, .phase⟩, ⟨3, .phase⟩, ⟨4, .phase⟩, ⟨5, .phase⟩, ⟨6, .phase⟩, ⟨7, .phase⟩, ⟨8, .phase⟩, ⟨9, .phase⟩, ⟨10, .phase⟩, ⟨11, .phase⟩, ⟨12, .phase⟩, ⟨13, .phase⟩, ⟨14, .phase⟩, ⟨15, .phase⟩, ⟨16, .phase⟩, ⟨17, .phase⟩, ⟨18, .phase⟩, ⟨19, .phase⟩, ⟨20, .phase⟩, ⟨21, .phase⟩, ⟨22, .phase⟩], none⟩) (v := ?_) rfl (by kernel_rfl) (by kernel_rfl) (by kernel_rfl) (fun _ _ _ h => h) (Or.inl ⟨by first | kernel_rfl | rfl, ?_⟩) (by assumption) ?_
    rotate_left
    · (intro w hSw; (try dsimp only at hSw); go_simp; try with_reducible rfl)
    try simp only [Act.put, List.setIfInBounds_toArray, List.set_cons_zero, List.set_cons_succ]
    refine wpAnyH_done (by kernel_rfl) ?_ _
    refine NoPanic.normal ?_
    go_wp2_with fail
    exact bodyPost_ret (v := .tuple #[.agg #[.int .i64 t, .int .i64 u], .int .i64 0]) (results_rt Try.results70 _ _ (w.heap.size + 1) _ _ _ rfl rfl ((by repeat (first | exact (HRB.out.st 0 _).st 1 _ | (with_reducible refine Bk.drwN ?_ _) | (with_reducible refine Bk.drw ?_))))) rfl ⟨⟨t, u, rfl, HVL.out⟩, (by repeat (first | exact HWB.out | exact HWA.out | exact HW0.out | (with_reducible refine Bel.drwN ?_ _) | (with_reducible refine Bel.drw ?_) | (with_reducible refine Bel.al ?_ _) | ((with_reducible refine Bel.st2 ?_ ?_ _); (show _ ≤ _; dsimp only; omega))))⟩
  · have hq : h = D - num := by have := HHH.out; omega
    subst hq
    go_enter Try.func70, Try.ntmps70
    go_upto_region 2 with fail
    obtain ⟨w1, w2, w3⟩ := HWS.out
    refine wp_region_noPanic ?_
    refine wp_region_held_drew (S := fun W : World => W.cell? ⟨w.heap.size, 1, none⟩ = some (.int .i64 D)) (by kernel_rfl) ?_ (fun hH0 => ?_)
    · (try dsimp only); exact KS.out _ (by repeat (first | exact HBB.out | exact HBA.out | exact HB0.out | (with_reducible refine Bk.drwN ?_ _) | (with_reducible refine Bk.drw ?_) | (with_reducible refine Bk.al ?_ _) | (with_reducible refine Bk.far ?_ (by dsimp only; omega) _)))
    refine wpAnyH_take (i := 0) (oi := ⟨some 17, .fieldAddr 103 (.tmp 1) 0, 0, "sketch.go:131", #[], none⟩) (v := ?_) rfl (by kernel_rfl) (by kernel_rfl) (by kernel_rfl) (fun _ _ _ h => h) (Or.inl ⟨by first | kernel_rfl | rfl, ?_⟩) (by assumption) ?_
    rotate_left
    · (intro w hSw; (try dsimp only at hSw); go_simp; try with_reducible rfl)
    try simp only [Act.put, List.setIfInBounds_toArray, List.set_cons_zero, List.set_cons_succ]
    refine wpAnyH_take (i := 1) (oi := ⟨some 18, .fieldAddr 101 (.tmp 17) 1, 0, "sketch.go:131", #[⟨0, .data⟩], none⟩) (v := ?_) rfl (by kernel_rfl) (by kernel_rfl) (by kernel_rfl) (fun _ _ _ h => h) (Or.inl ⟨by first | kernel_rfl | rfl, ?_⟩) (by assumption) ?_
    rotate_left
    · (intro w hSw; (try dsimp only at hSw); go_simp; try with_reducible rfl)
    try simp only [Act.put, List.setIfInBounds_toArray, List.set_cons_zero, List.set_cons_succ]
    refine wpAnyH_take (i := 2) (oi := ⟨some 19, .load 3 (.tmp 18), 3, "sketch.go:131", #[⟨1, .data⟩], none⟩) (v := ?_) rfl (by kernel_rfl) (by kernel_rfl) (by kernel_rfl) (fun _ _ _ h => h) (Or.inl ⟨by first | kernel_rfl | rfl, ?_⟩) (by assumption) ?_
    rotate_left
    · (intro w hSw; (try dsimp only at hSw); go_simp; try with_reducible rfl)
    try simp only [Act.put, List.setIfInBounds_toArray, List.set_cons_zero, List.set_cons_succ]
    refine wpAnyH_take (i := 3) (oi := ⟨some 20, .fieldAddr 103 (.tmp 1) 0, 0, "sketch.go:131", #[], none⟩) (v := ?_) rfl (by kernel_rfl) (by kernel_rfl) (by kernel_rfl) (fun _ _ _ h => h) (Or.inl ⟨by first | kernel_rfl | rfl, ?_⟩) (by assumption) ?_
    rotate_left
    · (intro w hSw; (try dsimp only at hSw); go_simp; try with_reducible rfl)
    try simp only [Act.put, List.setIfInBounds_toArray, List.set_cons_zero, List.set_cons_succ]
    refine wpAnyH_take (i := 4) (oi := ⟨some 21, .fieldAddr 101 (.tmp 20) 1, 0, "sketch.go:131", #[⟨3, .data⟩], none⟩) (v := ?_) rfl (by kernel_rfl) (by kernel_rfl) (by kernel_rfl) (fun _ _ _ h => h) (Or.inl ⟨by first | kernel_rfl | rfl, ?_⟩) (by assumption) ?_
    rotate_left
    · (intro w hSw; (try dsimp only at hSw); go_simp; try with_reducible rfl)
    try simp only [Act.put, List.setIfInBounds_toArray, List.set_cons_zero, List.set_cons_succ]
    refine wpAnyH_take (i := 5) (oi := ⟨some 22, .load 3 (.tmp 21), 3, "sketch.go:131", #[⟨4, .data⟩], none⟩) (v := ?_) rfl (by kernel_rfl) (by kernel_rfl) (by kernel_rfl) (fun _ _ _ h => h) (Or.inl ⟨by first | kernel_rfl | rfl, ?_⟩) (by assumption) ?_
    rotate_left
    · (intro w hSw; (try dsimp only at hSw); go_simp; try with_reducible rfl)
    try simp only [Act.put, List.setIfInBounds_toArray, List.set_cons_zero, List.set_cons_succ]
    refine wpAnyH_take (i := 6) (oi := ⟨some 23, .binOp BinOp.mul 3 (.tmp 19) (.tmp 22) 3, 3, "sketch.go:131", #[⟨2, .data⟩, ⟨5, .data⟩], none⟩) (v := ?_) rfl (by kernel_rfl) (by kernel_rfl) (by kernel_rfl) (fun _ _ _ h => h) (Or.inl ⟨by first | kernel_rfl | rfl, ?_⟩) (by assumption) ?_
    rotate_left
    · (intro w hSw; (try dsimp only at hSw); go_simp; try with_reducible rfl)
    try simp only [Act.put, List.setIfInBounds_toArray, List.set_cons_zero, List.set_cons_succ]
    refine wpAnyH_take (i := 7) (oi := ⟨some 24, .move (.tmp 4), 3, "sketch.go:131", #[], none⟩) (v := ?_) rfl (by kernel_rfl) (by kernel_rfl) (by kernel_rfl) (fun _ _ _ h => h) (Or.inl ⟨by first | kernel_rfl | rfl, ?_⟩) (by assumption) ?_
    rotate_left
    · (intro w hSw; (try dsimp only at hSw); go_simp; try with_reducible rfl)
    try simp only [Act.put, List.setIfInBounds_toArray, List.set_cons_zero, List.set_cons_succ]
    refine wpAnyH_take (i := 8) (oi := ⟨some 25, .move (.tmp 4), 3, "sketch.go:131", #[], none⟩) (v := ?_) rfl (by kernel_rfl) (by kernel_rfl) (by kernel_rfl) (fun _ _ _ h => h) (Or.inl ⟨by first | kernel_rfl | rfl, ?_⟩) (by assumption) ?_
    rotate_left
    · (intro w hSw; (try dsimp only at hSw); go_simp; try with_reducible rfl)
    try simp only [Act.put, List.setIfInBounds_toArray, List.set_cons_zero, List.set_cons_succ]
    refine wpAnyH_take (i := 12) (oi := ⟨some 29, .fieldAddr 103 (.tmp 1) 0, 0, "sketch.go:131", #[], none⟩) (v := ?_) rfl (by kernel_rfl) (by kernel_rfl) (by kernel_rfl) (fun _ _ _ h => h) (Or.inl ⟨by first | kernel_rfl | rfl, ?_⟩) (by assumption) ?_
    rotate_left
    · (intro w hSw; (try dsimp only at hSw); go_simp; try with_reducible rfl)
    try simp only [Act.put, List.setIfInBounds_toArray, List.set_cons_zero, List.set_cons_succ]
    refine wpAnyH_take (i := 13) (oi := ⟨some 30, .fieldAddr 101 (.tmp 29) 1, 0, "sketch.go:131", #[⟨12, .data⟩], none⟩) (v := ?_) rfl (by kernel_rfl) (by kernel_rfl) (by kernel_rfl) (fun _ _ _ h => h) (Or.inl ⟨by first | kernel_rfl | rfl, ?_⟩) (by assumption) ?_
    rotate_left
    · (intro w hSw; (try dsimp only at hSw); go_simp; try with_reducible rfl)
    try simp only [Act.put, List.setIfInBounds_toArray, List.set_cons_zero, List.set_cons_succ]
    refine wpAnyH_take (i := 14) (oi := ⟨some 31, .load 3 (.tmp 30), 3, "sketch.go:131", #[⟨13, .data⟩], none⟩) (v := ?_) rfl (by kernel_rfl) (by kernel_rfl) (by kernel_rfl) (fun _ _ _ h => h) (Or.inl ⟨by first | kernel_rfl | rfl, ?_⟩) (by assumption) ?_
    rotate_left
    · (intro w hSw; (try dsimp only at hSw); go_simp; try with_reducible rfl)
    try simp only [Act.put, List.setIfInBounds_toArray, List.set_cons_zero, List.set_cons_succ]
    refine wpAnyH_take (i := 15) (oi := ⟨some 32, .fieldAddr 103 (.tmp 1) 0, 0, "sketch.go:131", #[], none⟩) (v := ?_) rfl (by kernel_rfl) (by kernel_rfl) (by kernel_rfl) (fun _ _ _ h => h) (Or.inl ⟨by first | kernel_rfl | rfl, ?_⟩) (by assumption) ?_
    rotate_left
    · (intro w hSw; (try dsimp only at hSw); go_simp; try with_reducible rfl)
    try simp only [Act.put, List.setIfInBounds_toArray, List.set_cons_zero, List.set_cons_succ]
    refine wpAnyH_take (i := 16) (oi := ⟨some 33, .fieldAddr 101 (.tmp 32) 1, 0, "sketch.go:131", #[⟨15, .data⟩], none⟩) (v := ?_) rfl (by kernel_rfl) (by kernel_rfl) (by kernel_rfl) (fun _ _ _ h => h) (Or.inl ⟨by first | kernel_rfl | rfl, ?_⟩) (by assumption) ?_
    rotate_left
    · (intro w hSw; (try dsimp only at hSw); go_simp; try with_reducible rfl)
    try simp only [Act.put, List.setIfInBounds_toArray, List.set_cons_zero, List.set_cons_succ]
    refine wpAnyH_take (i := 17) (oi := ⟨some 34, .load 3 (.tmp 33), 3, "sketch.go:131", #[⟨16, .data⟩], none⟩) (v := ?_) rfl (by kernel_rfl) (by kernel_rfl) (by kernel_rfl) (fun _ _ _ h => h) (Or.inl ⟨by first | kernel_rfl | rfl, ?_⟩) (by assumption) ?_
    rotate_left
    · (intro w hSw; (try dsimp only at hSw); go_simp; try with_reducible rfl)
    try simp only [Act.put, List.setIfInBounds_toArray, List.set_cons_zero, List.set_cons_succ]
    refine wpAnyH_take (i := 18) (oi := ⟨some 35, .binOp BinOp.mul 3 (.tmp 31) (.tmp 34) 3, 3, "sketch.go:131", #[⟨14, .data⟩, ⟨17, .data⟩], none⟩) (v := ?_) rfl (by kernel_rfl) (by kernel_rfl) (by kernel_rfl) (fun _ _ _ h => h) (Or.inl ⟨by first | kernel_rfl | rfl, ?_⟩) (by assumption) ?_
    rotate_left
    · (intro w hSw; (try dsimp only at hSw); go_simp; try with_reducible rfl)
    try simp only [Act.put, List.setIfInBounds_toArray, List.set_cons_zero, List.set_cons_succ]
    refine wpAnyH_ready (rs := [9]) (by kernel_rfl) (by simp) ?_
    refine AllReadyH.cons (o := ⟨some 26, .call { callee := Callee.value (.func 106), args := #[.tmp 25], argTypes := #[3] }, 3, "sketch.go:131", #[⟨8, .data⟩], none⟩) rfl (fun K hK => ?_) AllReadyH.nil
    go_simp
    go_at_call 106; refine (AB.out _).mono ?_; rintro e wa ⟨rfl, hb⟩; have hba := Bel.tr ((by repeat (first | exact Bel.rf | (with_reducible refine Bel.drwN ?_ _) | (with_reducible refine Bel.drw ?_) | (with_reducible refine Bel.al ?_ _))) : Bel ((w.alloc (.cells #[.int .i64 num, .int .i64 D, .slice A n c] 103)).alloc (.cells #[.int .i64 0, .int .i64 0] 69)) _) hb; have HBA := Lib.hid (HB0.out.bel hba); have HRA := Lib.hid (HR0.out.bel hba); have HWA : Hid (Bel w wa) := HW0.out.tr hba; clear hb hba
    try go_wp2_with fail
    refine hK.out _ _ ?_ (fun hH1 => ?_)
    · (try dsimp only); exact KS.out _ (by repeat (first | exact HBB.out | exact HBA.out | exact HB0.out | (with_reducible refine Bk.drwN ?_ _) | (with_reducible refine Bk.drw ?_) | (with_reducible refine Bk.al ?_ _) | (with_reducible refine Bk.far ?_ (by dsimp only; omega) _)))
    clear hK K hH0
    try simp only [Act.put, List.setIfInBounds_toArray, List.set_cons_zero, List.set_cons_succ]
    refine wpAnyH_take (i := 10) (oi := ⟨some 27, .binOp BinOp.mul 3 (.tmp 24) (.tmp 26) 3, 3, "sketch.go:131", #[⟨7, .data⟩, ⟨9, .data⟩], none⟩) (v := ?_) rfl (by kernel_rfl) (by kernel_rfl) (by kernel_rfl) (fun _ _ _ h => h) (Or.inl ⟨by first | kernel_rfl | rfl, ?_⟩) (by assumption) ?_
    rotate_left
    · (intro w hSw; (try dsimp only at hSw); go_simp; try with_reducible rfl)
    try simp only [Act.put, List.setIfInBounds_toArray, List.set_cons_zero, List.set_cons_succ]
    refine wpAnyH_take (i := 11) (oi := ⟨some 28, .binOp BinOp.sub 3 (.tmp 23) (.tmp 27) 3, 3, "sketch.go:131", #[⟨6, .data⟩, ⟨10, .data⟩], none⟩) (v := ?_) rfl (by kernel_rfl) (by kernel_rfl) (by kernel_rfl) (fun _ _ _ h => h) (Or.inl ⟨by first | kernel_rfl | rfl, ?_⟩) (by assumption) ?_
    rotate_left
    · (intro w hSw; (try dsimp only at hSw); go_simp; try with_reducible rfl)
    try simp only [Act.put, List.setIfInBounds_toArray, List.set_cons_zero, List.set_cons_succ]
    refine wpAnyH_ready (rs := [19]) (by kernel_rfl) (by simp) ?_
    refine AllReadyH.cons (o := ⟨some 36, .call { callee := Callee.value (.func 66), args := #[.tmp 28, .tmp 35], argTypes := #[3, 3] }, 70, "sketch.go:131", #[⟨11, .data⟩, ⟨18, .data⟩, ⟨9, .chain⟩], none⟩) rfl (fun K hK => ?_) AllReadyH.nil
    go_simp
    go_at_call 66; refine (MK.out _).mono ?_; rintro e wb ⟨rfl, hb⟩; have hba := Bel.tr ((by repeat (first | exact Bel.rf | (with_reducible refine Bel.drwN ?_ _) | (with_reducible refine Bel.drw ?_) | (with_reducible refine Bel.al ?_ _))) : Bel wa _) hb; have HBB := Lib.hid (HBA.out.bel hba); have HRB := Lib.hid (HRA.out.bel hba); have HWB : Hid (Bel w wb) := HWA.out.tr hba; have y0 := HRB.out.cell 0; have y1 := HRB.out.cell 1; have z0 := HRB.out.fr 0; have z1 := HRB.out.fr 1; simp only [List.getElem?_toArray, List.getElem?_cons_zero, List.getElem?_cons_succ] at y0 y1; clear hb hba
    try go_wp2_with fail
    refine hK.out _ _ ?_ (fun hH2 => ?_)
    · (try dsimp only); exact KS.out _ (by repeat (first | exact HBB.out | exact HBA.out | exact HB0.out | (with_reducible refine Bk.drwN ?_ _) | (with_reducible refine Bk.drw ?_) | (with_reducible refine Bk.al ?_ _) | (with_reducible refine Bk.far ?_ (by dsimp only; omega) _)))
    clear hK K hH1
    try simp only [Act.put, List.setIfInBounds_toArray, List.set_cons_zero, List.set_cons_succ]
    refine wpAnyH_take (i := 20) (oi := ⟨some 37, .extract (.tmp 36) 0, 69, "sketch.go:131", #[⟨19, .data⟩], none⟩) (v := ?_) rfl (by kernel_rfl) (by kernel_rfl) (by kernel_rfl) (fun _ _ _ h => h) (Or.inl ⟨by first | kernel_rfl | rfl, ?_⟩) (by assumption) ?_
    rotate_left
    · (intro w hSw; (try dsimp only at hSw); go_simp; try with_reducible rfl)
    try simp only [Act.put, List.setIfInBounds_toArray, List.set_cons_zero, List.set_cons_succ]
    refine wpAnyH_take (i := 21) (oi := ⟨some 38, .extract (.tmp 36) 1, 33, "sketch.go:131", #[⟨19, .data⟩], none⟩) (v := ?_) rfl (by kernel_rfl) (by kernel_rfl) (by kernel_rfl) (fun _ _ _ h => h) (Or.inl ⟨by first | kernel_rfl | rfl, ?_⟩) (by assumption) ?_
    rotate_left
    · (intro w hSw; (try dsimp only at hSw); go_simp; try with_reducible rfl)
    try simp only [Act.put, List.setIfInBounds_toArray, List.set_cons_zero, List.set_cons_succ]
    refine wpAnyH_ready (rs := [22]) (by kernel_rfl) (by simp) ?_
    refine AllReadyH.cons (o := ⟨none, .store 69 (.tmp 2) (.tmp 37), 0, "sketch.go:131", #[⟨20, .data⟩, ⟨19, .chain⟩, ⟨0, .phase⟩, ⟨1, .phase⟩, ⟨2, .phase⟩, ⟨3, .phase⟩, ⟨4, .phase⟩, ⟨5, .phase⟩, ⟨6, .phase⟩, ⟨7, .phase⟩, ⟨8, .phase⟩, ⟨9, .phase⟩, ⟨10, .phase⟩, ⟨11, .phase⟩, ⟨12, .phase⟩, ⟨13, .phase⟩, ⟨14, .phase⟩, ⟨15, .phase⟩, ⟨16, .phase⟩, ⟨17, .phase⟩, ⟨18, .phase⟩, ⟨19, .phase⟩, ⟨20, .phase⟩, ⟨21, .phase⟩], none⟩) rfl (fun K hK => ?_) AllReadyH.nil
    go_simp
    skip
    try go_wp2_with fail
    refine hK.out _ _ ?_ (fun hH3 => ?_)
    · (try dsimp only); exact KS.out _ (by repeat (first | exact HBB.out | exact HBA.out | exact HB0.out | (with_reducible refine Bk.drwN ?_ _) | (with_reducible refine Bk.drw ?_) | (with_reducible refine Bk.al ?_ _) | (with_reducible refine Bk.far ?_ (by dsimp only; omega) _)))
    clear hK K hH2
    try simp only [Act.put, List.setIfInBounds_toArray, List.set_cons_zero, List.set_cons_succ]
    refine wpAnyH_take (i := 23) (oi := ⟨some 3, .assign (.tmp 38), 33, "sketch.go:131", #[⟨21, .data⟩, ⟨22, .chain⟩, ⟨0, .phase⟩, ⟨1, .phase⟩, ⟨2, .phase⟩, ⟨3, .phase⟩, ⟨4, .phase⟩, ⟨5, .phase⟩, ⟨6, .phase⟩, ⟨7, .phase⟩, ⟨8, .phase⟩, ⟨9, .phase⟩, ⟨10, .phase⟩, ⟨11, .phase⟩, ⟨12, .phase⟩, ⟨13, .phase⟩, ⟨14, .phase⟩, ⟨15, .phase⟩, ⟨16, .phase⟩, ⟨17, .phase⟩, ⟨18, .phase⟩, ⟨19, .phase⟩, ⟨20, .phase⟩, ⟨21, .phase⟩, ⟨22, .phase⟩], none⟩) (v := ?_) rfl (by kernel_rfl) (by kernel_rfl) (by kernel_rfl) (fun _ _ _ h => h) (Or.inl ⟨by first | kernel_rfl | rfl, ?_⟩) (by assumption) ?_
    rotate_left
    · (intro w hSw; (try dsimp only at hSw); go_simp; try with_reducible rfl)
    try simp only [Act.put, List.setIfInBounds_toArray, List.set_cons_zero, List.set_cons_succ]
    refine wpAnyH_done (by kernel_rfl) ?_ _
    refine NoPanic.normal ?_
    go_wp2_with fail
    exact bodyPost_ret (v := .tuple #[.agg #[.int .i64 t, .int .i64 u], .int .i64 0]) (results_rt Try.results70 _ _ (w.heap.size + 1) _ _ _ rfl rfl ((by repeat (first | exact (HRB.out.st 0 _).st 1 _ | (with_reducible refine Bk.drwN ?_ _) | (with_reducible refine Bk.drw ?_))))) rfl ⟨⟨t, u, rfl, HVL.out⟩, (by repeat (first | exact HWB.out | exact HWA.out | exact HW0.out | (with_reducible refine Bel.drwN ?_ _) | (with_reducible refine Bel.drw ?_) | (with_reducible refine Bel.al ?_ _) | ((with_reducible refine Bel.st2 ?_ ?_ _); (show _ ≤ _; dsimp only; omega))))⟩
end Go.Proofs.Ytgdhgeongdenpaa.Sk
namespace Go.Proofs.Ytgdhgeongdenpaa.Sk
open Go.ChangeShapes Go.WideShapes Go.RowKit Wo Sr Wi Nr Pc Eu Ra
open Wd (Rp rs rs_at rs_cons)
set_option linter.unusedVariables false
set_option linter.unusedSimpArgs false
/-- how far a coordinate lies from an interval -/
def dd (a : Int) (r : Rp) : Int := max 0 (max (16 * r.1 - (a + 1)) (a - 16 * (r.2 + 1)))
theorem dd_in (a : Int) (r : Rp) (h1 : -2147483649 ≤ a) (h2 : a ≤ 2147483649) (h3 : -2000 ≤ r.1) (h4 : r.1 ≤ 2000) (h5 : -2000 ≤ r.2) (h6 : r.2 ≤ 2000) : 0 ≤ dd a r ∧ dd a r ≤ 1099511627776 := by unfold dd; omega
def kp (m n p : Nat) : Int := 2097152 * cmn m n / (2097152 * (lns m n).getD p 0)
/-- the excess of the first pieces -/
def xs (m n : Nat) (X : List Int) (L : List Rp) : Nat → Int
  | 0 => 0
  | p + 1 => xs m n X L p + min (dd (Rt.quo (1024 * (pls (cen X) m n).getD p 0) ((m : Int) * vr X)) (L.getD p (0, 0))) 16384 * min (dd (Rt.quo (1024 * (pls (cen X) m n).getD p 0) ((m : Int) * vr X)) (L.getD p (0, 0))) 16384 * kp m n p
theorem kp_in {m n p : Nat} (m32 : m ≤ 32) (n1 : 1 ≤ n) (nm : n ≤ m) (hp : p < n) : 0 ≤ kp m n p ∧ kp m n p ≤ 289 := by
  have c := cmn_in m32 n1 nm
  have l := lns_in m32 n1 nm p hp
  unfold kp
  refine ⟨Int.ediv_nonneg (by omega) (by omega), ?_⟩
  have : 2097152 * cmn m n / (2097152 * (lns m n).getD p 0) < 290 := by
    rw [Int.ediv_lt_iff_lt_mul (by omega)]
    omega
  omega
theorem sq_bd14 {d : Int} (d0 : 0 ≤ d) : 0 ≤ min d 16384 * min d 16384 ∧ min d 16384 * min d 16384 ≤ 268435456 := by
  obtain ⟨x, hx⟩ : ∃ x, min d 16384 = x := ⟨_, rfl⟩
  rw [hx]
  exact ⟨Int.mul_nonneg (by omega) (by omega), Int.mul_le_mul (by omega : x ≤ 16384) (by omega : x ≤ 16384) (by omega : 0 ≤ x) (by decide)⟩
theorem quo_bd2 {t e : Int} (h : Rt.QIn t e) : -2147483649 ≤ Rt.quo t e ∧ Rt.quo t e ≤ 2147483648 := by
  obtain ⟨h1, h2, h3, h4⟩ := id h
  have a := Rt.sq_bd h1 h2
  have d := Rt.div_bd a.1 a.2 h3
  have i0 := Rt.isq_nonneg (t * t / e)
  have i1 := Rt.isq_le_max d.1 d.2
  unfold Rt.quo
  split
  · omega
  · split <;> omega
theorem dd_nonneg (a : Int) (r : Rp) : 0 ≤ dd a r := by unfold dd; omega
theorem xs_in {m n : Nat} {X : List Int} {L : List Rp} (m32 : m ≤ 32) (n1 : 1 ≤ n) (nm : n ≤ m) : ∀ p, p ≤ n → 0 ≤ xs m n X L p ∧ xs m n X L p ≤ 77577846784 * (p : Int)
  | 0, _ => by unfold xs; omega
  | p + 1, hp => by
    have ih := xs_in (X := X) (L := L) m32 n1 nm p (by omega)
    have k := kp_in m32 n1 nm (show p < n by omega)
    have s := sq_bd14 (dd_nonneg (Rt.quo (1024 * (pls (cen X) m n).getD p 0) ((m : Int) * vr X)) (L.getD p (0, 0)))
    unfold xs
    obtain ⟨Y, hY⟩ : ∃ Y, min (dd (Rt.quo (1024 * (pls (cen X) m n).getD p 0) ((m : Int) * vr X)) (L.getD p (0, 0))) 16384 * min (dd (Rt.quo (1024 * (pls (cen X) m n).getD p 0) ((m : Int) * vr X)) (L.getD p (0, 0))) 16384 = Y := ⟨_, rfl⟩
    rw [hY] at s ⊢
    have z1 : 0 ≤ Y * kp m n p := Int.mul_nonneg s.1 k.1
    have z2 : Y * kp m n p ≤ 268435456 * 289 := Int.mul_le_mul s.2 k.2 k.1 (by decide)
    omega
theorem dd_mono {a : Int} {r s : Rp} (h1 : r.1 ≤ s.1) (h2 : s.2 ≤ r.2) : dd a r ≤ dd a s := by unfold dd; omega
theorem xs_mono {m n : Nat} {X : List Int} {L M : List Rp} (m32 : m ≤ 32) (n1 : 1 ≤ n) (nm : n ≤ m) (h : ∀ p, p < n → (L.getD p (0, 0)).1 ≤ (M.getD p (0, 0)).1 ∧ (M.getD p (0, 0)).2 ≤ (L.getD p (0, 0)).2) : ∀ p, p ≤ n → xs m n X L p ≤ xs m n X M p
  | 0, _ => Int.le_refl _
  | p + 1, hp => by
    have ih := xs_mono (X := X) m32 n1 nm h p (by omega)
    have k := kp_in m32 n1 nm (show p < n by omega)
    have hd := dd_mono (a := Rt.quo (1024 * (pls (cen X) m n).getD p 0) ((m : Int) * vr X)) (h p (by omega)).1 (h p (by omega)).2
    have d0 := dd_nonneg (Rt.quo (1024 * (pls (cen X) m n).getD p 0) ((m : Int) * vr X)) (L.getD p (0, 0))
    unfold xs
    obtain ⟨a, ha⟩ : ∃ Y, dd (Rt.quo (1024 * (pls (cen X) m n).getD p 0) ((m : Int) * vr X)) (L.getD p (0, 0)) = Y := ⟨_, rfl⟩
    obtain ⟨b, hb⟩ : ∃ Y, dd (Rt.quo (1024 * (pls (cen X) m n).getD p 0) ((m : Int) * vr X)) (M.getD p (0, 0)) = Y := ⟨_, rfl⟩
    rw [ha] at hd d0 ⊢
    rw [hb] at hd ⊢
    have s1 : min a 16384 * min a 16384 ≤ min b 16384 * min b 16384 := Int.mul_le_mul (by omega) (by omega) (by omega) (by omega)
    have s2 := Int.mul_le_mul_of_nonneg_right s1 k.1
    omega
/-- the bound of a region, as a quotient -/
def rT (m n : Nat) (X : List Int) (L : List Rp) : Int := if (m : Int) * vr X = 0 then (if anyo L n then 1 else 0) else bT (xs m n X L n) (2097152 * cmn m n)
def rC (m n : Nat) (X : List Int) : Int := if (m : Int) * vr X = 0 then 1 else 2097152 * cmn m n * (2097152 * cmn m n)
theorem rC_pos {m n : Nat} {X : List Int} (m32 : m ≤ 32) (n1 : 1 ≤ n) (nm : n ≤ m) : 1 ≤ rC m n X := by
  have c := cmn_in m32 n1 nm
  unfold rC
  split
  · decide
  · have := Int.mul_le_mul (show (1 : Int) ≤ 2097152 * cmn m n by omega) (show (1 : Int) ≤ 2097152 * cmn m n by omega) (by decide) (by omega)
    omega
theorem rT_mono {m n : Nat} {X : List Int} {L M : List Rp} (m32 : m ≤ 32) (n1 : 1 ≤ n) (nm : n ≤ m) (h : ∀ p, p < n → (L.getD p (0, 0)).1 ≤ (M.getD p (0, 0)).1 ∧ (M.getD p (0, 0)).2 ≤ (L.getD p (0, 0)).2) : rT m n X L ≤ rT m n X M := by
  unfold rT
  split
  · by_cases hl : anyo L n
    · have : anyo M n := by
        obtain ⟨p, hp, ho⟩ := hl
        refine ⟨p, hp, ?_⟩
        have := h p hp
        unfold offz at ho ⊢
        omega
      rw [if_pos hl, if_pos this]; exact Int.le_refl _
    · rw [if_neg hl]; split <;> decide
  · exact bT_mono (xs_mono m32 n1 nm h n (Nat.le_refl _))
set_option maxHeartbeats 8000000 in
set_option maxRecDepth 100000 in
theorem sreg_ok (a c m n h cl : Nat) (X : List Int) (L : List Rp) (m2 : 2 ≤ m) (m32 : m ≤ 32) (n1 : 1 ≤ n) (n8 : n ≤ 8) (nm : n ≤ m) (hs : Sam X) (hX : X.length = m) (hL : ∀ p, p < n → (-2000 ≤ (L.getD p (0, 0)).1 ∧ (L.getD p (0, 0)).1 ≤ 2000) ∧ -2000 ≤ (L.getD p (0, 0)).2 ∧ (L.getD p (0, 0)).2 ≤ 2000) (hLe : ∀ p, p < n → (L.getD p (0, 0)).1 ≤ (L.getD p (0, 0)).2) (w : World) (hz : Skz w a n m X) (hv : Zv w h n L) :
    Calls Try.prog 29 #[skv a c m n ((m : Int) * vr X), .slice (some ⟨h, 0, none⟩) n cl] w fun e w' => (∃ t u, e = .returned (.tuple #[.agg #[.int .i64 t, .int .i64 u], .int .i64 0]) ∧ Vl t u (rT m n X L) (rC m n X)) ∧ Bel w w' := by
  have ex := cen_en hX hs m32
  have px := cen_pb (n := n) hs hX m32 n1
  have rx := rsd_in (cen X) m n (by rw [cen_len', hX]) n1 nm
  have fx : rsd (cen X) m n = (m : Int) * vr X - tf (cen X) m n n := by unfold rsd tf; rw [ex.2.2.2]
  have HPB : Hid (∀ p, p < n → -2048000 ≤ (pls (cen X) m n).getD p 0 ∧ (pls (cen X) m n).getD p 0 ≤ 2048000) := fun p hp => by rw [pls_pa _ _ _ _ hp]; exact px p hp
  have VX : Hid (∀ W, Bel w W → Calls Try.prog 62 #[.agg #[.int .i64 (m : Int), .slice (some ⟨a, 0, none⟩) n c, .int .i64 ((m : Int) * vr X)]] W fun e w' => e = .returned (.bool true) ∧ Bel W w') := fun W hW => valid_ok a c m n _ (vr X) (cen X) px rfl ex.1 ex.2.1 (by omega) m2 m32 n1 n8 nm W (hz.bel hW)
  have B1 : Hid (∀ W, Bel w W → Calls Try.prog 63 #[.slice (some ⟨h, 0, none⟩) n cl, .func (.func 64) #[] #[]] W fun e w' => e = .returned (.bool false) ∧ Bel W w') := fun W hW => cbeyond_ok h cl n L n8 hL W (hv.bel hW)
  have B2 : Hid (∀ W, Bel w W → Calls Try.prog 63 #[.slice (some ⟨h, 0, none⟩) n cl, .func (.func 65) #[] #[]] W fun e w' => e = .returned (.bool false) ∧ Bel W w') := fun W hW => cturned_ok h cl n L n8 hLe W (hv.bel hW)
  have B3 : Hid (∀ W, Bel w W → Calls Try.prog 63 #[.slice (some ⟨h, 0, none⟩) n cl, .func (.func 67) #[] #[]] W fun e w' => e = .returned (.bool (decide (anyo L n))) ∧ Bel W w') := fun W hW => outc_ok h cl n L n8 W (hv.bel hW)
  have NO : Hid (∀ W, Calls Try.prog 68 #[.agg #[.int .i64 (m : Int), .slice (some ⟨a, 0, none⟩) n c, .int .i64 ((m : Int) * vr X)]] W fun e w' => ∃ g, e = .returned (.agg #[.int .i64 0, .int .i64 (2097152 * cmn m n), .slice (some ⟨g, 0, none⟩) n n]) ∧ W.heap.size ≤ g ∧ Bk w' g 3 (zs (lns m n)).toArray ∧ Bel W w') := fun W => none_ok a c m n _ m2 m32 n1 n8 nm W
  have ci := cmn_in m32 n1 nm
  have HCI : Hid (1 ≤ cmn m n ∧ cmn m n ≤ 289) := ⟨ci.2.2.1, ci.2.2.2.1⟩
  have HLN : Hid (∀ p, p < n → 1 ≤ (lns m n).getD p 0 ∧ (lns m n).getD p 0 ≤ 33) := fun p hp => ⟨(lns_in m32 n1 nm p hp).1, (lns_in m32 n1 nm p hp).2.1⟩
  have HXS : Hid (∀ p, p ≤ n → 0 ≤ xs m n X L p ∧ xs m n X L p ≤ 77577846784 * (p : Int)) := xs_in m32 n1 nm
  have HXN : Hid (∀ p, xs m n X L (p + 1) = xs m n X L p + min (dd (Rt.quo (1024 * (pls (cen X) m n).getD p 0) ((m : Int) * vr X)) (L.getD p (0, 0))) 16384 * min (dd (Rt.quo (1024 * (pls (cen X) m n).getD p 0) ((m : Int) * vr X)) (L.getD p (0, 0))) 16384 * (2097152 * cmn m n / (2097152 * (lns m n).getD p 0))) := fun p => rfl
  have HEB : Hid (0 ≤ (m : Int) * vr X ∧ (m : Int) * vr X ≤ 4611686018427387904) := ⟨ex.1, by omega⟩
  have HRT : Hid (rT m n X L = if (m : Int) * vr X = 0 then (if anyo L n then 1 else 0) else bT (xs m n X L n) (2097152 * cmn m n)) := rfl
  have HRC : Hid (rC m n X = if (m : Int) * vr X = 0 then 1 else 2097152 * cmn m n * (2097152 * cmn m n)) := rfl
  obtain ⟨E, hE⟩ : ∃ E, (m : Int) * vr X = E := ⟨_, rfl⟩
  rw [hE] at VX NO HXN HEB HRT HRC ⊢
  obtain ⟨T, hT⟩ : ∃ E, rT m n X L = E := ⟨_, rfl⟩
  obtain ⟨C, hC⟩ : ∃ E, rC m n X = E := ⟨_, rfl⟩
  rw [hT] at HRT ⊢
  rw [hC] at HRC ⊢
  have HZ := Lib.hid hz
  have HV := Lib.hid hv
  have HLL := Lib.hid hL
  have ni : (n : Int) ≤ 8 := by omega
  have nn := ne_self (n : Int)
  have HN1 := Lib.hid n1
  have MK : Hid (∀ v : Int, v = 0 ∨ v = 1 → ∃ t u, Vl t u v 1 ∧ ∀ W, Calls Try.prog 66 #[.int .i64 v, .int .i64 1] W fun e w' => e = .returned (.tuple #[.agg #[.int .i64 t, .int .i64 u], .int .i64 0]) ∧ Bel W w') := fun v hv => by
    have mf := make_facts (n := v) (d := 1) (by omega) (by decide) (by omega) (by decide)
    exact ⟨_, _, ⟨mf.2.2.2.2.2.2.1, mf.2.2.2.2.2.2.2⟩, fun W => make_in v 1 W (by omega) (by decide) (rin_yes mf.2.2.2.2.2.2.1.1) (by omega) (by decide)⟩
  have HB0 : Hid (Bk ((w.alloc (.cells #[.int .i64 (m : Int), .slice (some ⟨a, 0, none⟩) n c, .int .i64 E] 64)).alloc (.cells #[.int .i64 0, .int .i64 0] 69)) w.heap.size 64 #[.int .i64 (m : Int), .slice (some ⟨a, 0, none⟩) n c, .int .i64 E]) := (Bk.nw _ _ _).al _
  have HR0 : Hid (Bk ((w.alloc (.cells #[.int .i64 (m : Int), .slice (some ⟨a, 0, none⟩) n c, .int .i64 E] 64)).alloc (.cells #[.int .i64 0, .int .i64 0] 69)) (w.heap.size + 1) 69 #[.int .i64 0, .int .i64 0]) := Bk.nq _ _ _ (by simp)
  have HW0 : Hid (Bel w ((w.alloc (.cells #[.int .i64 (m : Int), .slice (some ⟨a, 0, none⟩) n c, .int .i64 E] 64)).alloc (.cells #[.int .i64 0, .int .i64 0] 69))) := (Bel.rf.al _).al _
  have KS : Hid (∀ W, Bel ((w.alloc (.cells #[.int .i64 (m : Int), .slice (some ⟨a, 0, none⟩) n c, .int .i64 E] 64)).alloc (.cells #[.int .i64 0, .int .i64 0] 69)) W → W.cell? ⟨w.heap.size, 0, none⟩ = some (.int .i64 (m : Int)) ∧ W.cell? ⟨w.heap.size, 1, none⟩ = some (.slice (some ⟨a, 0, none⟩) n c) ∧ W.cell? ⟨w.heap.size, 2, none⟩ = some (.int .i64 E)) := fun W hW => by
    have u0 := (HB0.out.bel hW).cell 0
    have u1 := (HB0.out.bel hW).cell 1
    have u2 := (HB0.out.bel hW).cell 2
    simp only [List.getElem?_toArray, List.getElem?_cons_zero, List.getElem?_cons_succ] at u0 u1 u2
    exact ⟨u0, u1, u2⟩
  have KR : Hid (∀ W, Bel ((w.alloc (.cells #[.int .i64 (m : Int), .slice (some ⟨a, 0, none⟩) n c, .int .i64 E] 64)).alloc (.cells #[.int .i64 0, .int .i64 0] 69)) W → ∀ x y : Int, Bk ((W.setCell ⟨w.heap.size + 1, 0, none⟩ (.int .i64 x)).setCell ⟨w.heap.size + 1, 1, none⟩ (.int .i64 y)) (w.heap.size + 1) 69 #[.int .i64 x, .int .i64 y] ∧ Bel w ((W.setCell ⟨w.heap.size + 1, 0, none⟩ (.int .i64 x)).setCell ⟨w.heap.size + 1, 1, none⟩ (.int .i64 y)) ∧ W.cell? ⟨w.heap.size + 1, 0, none⟩ = some (.int .i64 0) ∧ W.cell? ⟨w.heap.size + 1, 1, none⟩ = some (.int .i64 0) ∧ W.frozen? ⟨w.heap.size + 1, 0, none⟩ = false ∧ W.frozen? ⟨w.heap.size + 1, 1, none⟩ = false) := fun W hW x y => by
    have hb := HR0.out.bel hW
    have u0 := hb.cell 0
    have u1 := hb.cell 1
    simp only [List.getElem?_toArray, List.getElem?_cons_zero, List.getElem?_cons_succ] at u0 u1
    exact ⟨(hb.st 0 _).st 1 _, Bel.st2 (by show w.heap.size ≤ w.heap.size + 1; omega) (Bel.st2 (by show w.heap.size ≤ w.heap.size + 1; omega) (HW0.out.tr hW) _) _, u0, u1, hb.fr 0, hb.fr 1⟩
  clear ex px rx fx ci hz hv hL hLe hE hT hC
  unfold skv
  go_enter Try.func29, Try.ntmps29
  go_wp2_with fail
  go_at_call 62
  refine (VX.out _ (HW0.out.tr (by repeat (first | exact Bel.rf | (with_reducible refine Bel.drwN ?_ _) | (with_reducible refine Bel.drw ?_) | (with_reducible refine Bel.al ?_ _))))).mono ?_
  rintro e w1 ⟨rfl, hb⟩
  have H1 : Hid (Bel ((w.alloc (.cells #[.int .i64 (m : Int), .slice (some ⟨a, 0, none⟩) n c, .int .i64 E] 64)).alloc (.cells #[.int .i64 0, .int .i64 0] 69)) w1) := Bel.tr (by repeat (first | exact Bel.rf | (with_reducible refine Bel.drwN ?_ _) | (with_reducible refine Bel.drw ?_) | (with_reducible refine Bel.al ?_ _))) hb
  obtain ⟨q0, q1, q2⟩ := KS.out w1 H1.out
  clear hb
  go_wp2_with fail
  go_at_call 63
  refine (B1.out _ (HW0.out.tr (H1.out.tr (by repeat (first | exact Bel.rf | (with_reducible refine Bel.drwN ?_ _) | (with_reducible refine Bel.drw ?_) | (with_reducible refine Bel.al ?_ _)))))).mono ?_
  rintro e w2 ⟨rfl, hb⟩
  have H2 : Hid (Bel ((w.alloc (.cells #[.int .i64 (m : Int), .slice (some ⟨a, 0, none⟩) n c, .int .i64 E] 64)).alloc (.cells #[.int .i64 0, .int .i64 0] 69)) w2) := H1.out.tr (Bel.tr (by repeat (first | exact Bel.rf | (with_reducible refine Bel.drwN ?_ _) | (with_reducible refine Bel.drw ?_) | (with_reducible refine Bel.al ?_ _))) hb)
  clear hb q0 q1 q2
  go_wp2_with fail
  go_at_call 63
  refine (B2.out _ (HW0.out.tr (H2.out.tr (by repeat (first | exact Bel.rf | (with_reducible refine Bel.drwN ?_ _) | (with_reducible refine Bel.drw ?_) | (with_reducible refine Bel.al ?_ _)))))).mono ?_
  rintro e w3 ⟨rfl, hb⟩
  have H3 : Hid (Bel ((w.alloc (.cells #[.int .i64 (m : Int), .slice (some ⟨a, 0, none⟩) n c, .int .i64 E] 64)).alloc (.cells #[.int .i64 0, .int .i64 0] 69)) w3) := H2.out.tr (Bel.tr (by repeat (first | exact Bel.rf | (with_reducible refine Bel.drwN ?_ _) | (with_reducible refine Bel.drw ?_) | (with_reducible refine Bel.al ?_ _))) hb)
  obtain ⟨q0, q1, q2⟩ := KS.out w3 H3.out
  clear hb
  by_cases hE0 : E = 0
  · have HT1 : Hid (T = if anyo L n then 1 else 0) := by show _ = _; rw [HRT.out, if_pos hE0]
    have HC1 : Hid (C = 1) := by show _ = _; rw [HRC.out, if_pos hE0]
    have he : (E == 0) = true := by simpa using hE0
    clear hE0
    go_wp2_with fail
    go_at_call 63
    refine (B3.out _ (HW0.out.tr (H3.out.tr (by repeat (first | exact Bel.rf | (with_reducible refine Bel.drwN ?_ _) | (with_reducible refine Bel.drw ?_) | (with_reducible refine Bel.al ?_ _)))))).mono ?_
    rintro e w4 ⟨rfl, hb⟩
    have H4 : Hid (Bel ((w.alloc (.cells #[.int .i64 (m : Int), .slice (some ⟨a, 0, none⟩) n c, .int .i64 E] 64)).alloc (.cells #[.int .i64 0, .int .i64 0] 69)) w4) := H3.out.tr (Bel.tr (by repeat (first | exact Bel.rf | (with_reducible refine Bel.drwN ?_ _) | (with_reducible refine Bel.drw ?_) | (with_reducible refine Bel.al ?_ _))) hb)
    clear hb q0 q1 q2
    by_cases ha : anyo L n
    · obtain ⟨t, u, hvl, hmk⟩ := MK.out 1 (.inr rfl)
      have HVL : Hid (Vl t u T C) := by show Vl _ _ _ _; rw [HT1.out, HC1.out, if_pos ha]; exact hvl
      have HMK := Lib.hid hmk
      have da : decide (anyo L n) = true := decide_eq_true ha
      clear hvl hmk ha
      go_wp2_with fail
      go_at_call 66
      refine (HMK.out _).mono ?_
      rintro e w5 ⟨rfl, hb⟩
      have H5 : Hid (Bel ((w.alloc (.cells #[.int .i64 (m : Int), .slice (some ⟨a, 0, none⟩) n c, .int .i64 E] 64)).alloc (.cells #[.int .i64 0, .int .i64 0] 69)) w5) := H4.out.tr (Bel.tr (by repeat (first | exact Bel.rf | (with_reducible refine Bel.drwN ?_ _) | (with_reducible refine Bel.drw ?_) | (with_reducible refine Bel.al ?_ _))) hb)
      obtain ⟨k1, k2, y0, y1, z0, z1⟩ := KR.out w5 H5.out t u
      have HK1 := Lib.hid k1
      have HK2 := Lib.hid k2
      clear hb k1 k2
      go_wp2
      exact bodyPost_ret (v := .tuple #[.agg #[.int .i64 t, .int .i64 u], .int .i64 0]) (results_rt Try.results29 _ _ (w.heap.size + 1) _ _ _ rfl rfl HK1.out) rfl ⟨⟨t, u, rfl, HVL.out⟩, HK2.out⟩
    · obtain ⟨t, u, hvl, hmk⟩ := MK.out 0 (.inl rfl)
      have HVL : Hid (Vl t u T C) := by show Vl _ _ _ _; rw [HT1.out, HC1.out, if_neg ha]; exact hvl
      have HMK := Lib.hid hmk
      have da : decide (anyo L n) = false := decide_eq_false ha
      clear hvl hmk ha
      go_wp2_with fail
      go_at_call 66
      refine (HMK.out _).mono ?_
      rintro e w5 ⟨rfl, hb⟩
      have H5 : Hid (Bel ((w.alloc (.cells #[.int .i64 (m : Int), .slice (some ⟨a, 0, none⟩) n c, .int .i64 E] 64)).alloc (.cells #[.int .i64 0, .int .i64 0] 69)) w5) := H4.out.tr (Bel.tr (by repeat (first | exact Bel.rf | (with_reducible refine Bel.drwN ?_ _) | (with_reducible refine Bel.drw ?_) | (with_reducible refine Bel.al ?_ _))) hb)
      obtain ⟨k1, k2, y0, y1, z0, z1⟩ := KR.out w5 H5.out t u
      have HK1 := Lib.hid k1
      have HK2 := Lib.hid k2
      clear hb k1 k2
      go_wp2
      exact bodyPost_ret (v := .tuple #[.agg #[.int .i64 t, .int .i64 u], .int .i64 0]) (results_rt Try.results29 _ _ (w.heap.size + 1) _ _ _ rfl rfl HK1.out) rfl ⟨⟨t, u, rfl, HVL.out⟩, HK2.out⟩
  · have HT1 : Hid (T = bT (xs m n X L n) (2097152 * cmn m n)) := by show _ = _; rw [HRT.out, if_neg hE0]
    have HC1 : Hid (C = 2097152 * cmn m n * (2097152 * cmn m n)) := by show _ = _; rw [HRC.out, if_neg hE0]
    have he : (E == 0) = false := by simpa using hE0
    go_wp2_with fail
    go_at_call 68
    refine (NO.out _).mono ?_
    rintro e w4 ⟨g, rfl, hg0, hgk, hb⟩
    have hb4 : Bel w3 w4 := Bel.tr (by repeat (first | exact Bel.rf | (with_reducible refine Bel.drwN ?_ _) | (with_reducible refine Bel.drw ?_) | (with_reducible refine Bel.al ?_ _))) hb
    have H4 : Hid (Bel ((w.alloc (.cells #[.int .i64 (m : Int), .slice (some ⟨a, 0, none⟩) n c, .int .i64 E] 64)).alloc (.cells #[.int .i64 0, .int .i64 0] 69)) w4) := H3.out.tr hb4
    have HGK := Lib.hid hgk
    obtain ⟨Q, hQ⟩ : ∃ Q, cmn m n = Q := ⟨_, rfl⟩
    rw [hQ] at HCI HT1 HC1 HXN
    have HZ4 : Hid (Bk (w4.alloc (.cells #[.int .i64 0, .int .i64 (2097152 * Q), .slice (some ⟨g, 0, none⟩) n n] 103)) w4.heap.size 103 #[.int .i64 (xs m n X L 0), .int .i64 (2097152 * Q), .slice (some ⟨g, 0, none⟩) n n]) := Bk.nw _ _ _
    have HL4 : Hid (Bel ((w.alloc (.cells #[.int .i64 (m : Int), .slice (some ⟨a, 0, none⟩) n c, .int .i64 E] 64)).alloc (.cells #[.int .i64 0, .int .i64 0] 69)) (w4.alloc (.cells #[.int .i64 0, .int .i64 (2097152 * Q), .slice (some ⟨g, 0, none⟩) n n] 103))) := H4.out.al _
    have HG4 : Hid (Bk (w4.alloc (.cells #[.int .i64 0, .int .i64 (2097152 * Q), .slice (some ⟨g, 0, none⟩) n n] 103)) g 3 (zs (lns m n)).toArray) := hgk.al _
    have HWH : Hid (w.heap.size + 1 < w4.heap.size) := (HR0.out.bel H4.out).lt
    have HGN : Hid (g ≠ w4.heap.size) := fun e => by have := hgk.lt; omega
    rw [hQ]
    have HKC : Hid (∀ W, Ch w4.heap.size (w4.alloc (.cells #[.int .i64 0, .int .i64 (2097152 * Q), .slice (some ⟨g, 0, none⟩) n n] 103)) W → Bel ((w.alloc (.cells #[.int .i64 (m : Int), .slice (some ⟨a, 0, none⟩) n c, .int .i64 E] 64)).alloc (.cells #[.int .i64 0, .int .i64 0] 69)) W) := fun W hW => Bel.ch H4.out ((Ch.of_bel (Bel.rf.al _)).tr hW) (by have := H4.out.size; omega)
    clear hb hb4 hg0 hgk hQ q0 q1 q2
    obtain ⟨z, hzz⟩ : ∃ z, w4.heap.size = z := ⟨_, rfl⟩
    rw [hzz] at HZ4 HWH HGN HKC
    have HZQ : Hid (w.heap.size + 1 < z) := HWH.out
    go_wp2_with fail
    try rw [hzz]
    clear hzz
    go_loopw [45] (fun s45 wr => ∃ (i : Nat) (V : World), V = wr ∧ i ≤ n ∧ s45 = .int .i64 (i : Int) ∧ Bk wr z 103 #[.int .i64 (xs m n X L i), .int .i64 (2097152 * Q), .slice (some ⟨g, 0, none⟩) n n] ∧ Ch z (w4.alloc (.cells #[.int .i64 0, .int .i64 (2097152 * Q), .slice (some ⟨g, 0, none⟩) n n] 103)) wr) (fun s45 _ => n - (intOf s45).toNat)
    case atStart => exact ⟨0, _, rfl, by omega, by go_num, (by repeat (first | exact HZ4.out | (with_reducible refine Bk.drwN ?_ _) | (with_reducible refine Bk.drw ?_))), (by repeat (first | exact Ch.rf | (with_reducible refine Ch.drwN ?_ _) | (with_reducible refine Ch.drw ?_)))⟩
    case round =>
      obtain ⟨i, wr, hwr, hi, rfl, hk, hc⟩ := hrel
      subst hwr
      have HK := Lib.hid hk
      have HC := Lib.hid hc
      have HBW : Hid (Bel ((w.alloc (.cells #[.int .i64 (m : Int), .slice (some ⟨a, 0, none⟩) n c, .int .i64 E] 64)).alloc (.cells #[.int .i64 0, .int .i64 0] 69)) wr) := HKC.out wr hc
      clear hk hc
      rcases Nat.lt_or_ge i n with hlt | hge
      · have ii : (i : Int) < (n : Int) := by omega
        have i0 : (0 : Int) ≤ (i : Int) := by omega
        obtain ⟨c1, c2⟩ := (HV.out.bel (HW0.out.tr HBW.out)).2 i hlt
        have hlb := HLL.out i hlt
        obtain ⟨x, hx⟩ : ∃ x, L.getD i (0, 0) = x := ⟨_, rfl⟩
        have hxn := HXN.out i
        rw [hx] at c1 c2 hlb hxn
        obtain ⟨x1, x2⟩ := x
        dsimp only at c1 c2 hlb
        obtain ⟨⟨l1, l2⟩, l3, l4⟩ := hlb
        obtain ⟨s1, s2⟩ := HPB.out i hlt
        have cs : wr.cell? ⟨a, i, none⟩ = some (.int .i64 ((pls (cen X) m n).getD i 0)) := (Zi.bel HZ.out (HW0.out.tr HBW.out)).at i hlt
        obtain ⟨s, hs'⟩ : ∃ s, (pls (cen X) m n).getD i 0 = s := ⟨_, rfl⟩
        rw [hs'] at s1 s2 cs hxn
        have e1 : 1 ≤ E := by have := HEB.out.1; omega
        have hqi : Rt.QIn (1024 * s) E := ⟨by omega, by omega, e1, HEB.out.2⟩
        have QU : Hid (∀ W, Calls Try.prog 51 #[.int .i64 (1024 * s), .int .i64 E] W fun r w' => r = .returned (.tuple #[.int .i64 (Rt.quo (1024 * s) E), .int .i64 0]) ∧ W = w') := fun W => Rt.quo_in _ _ W hqi
        have qb := quo_bd2 hqi
        obtain ⟨av, hav⟩ : ∃ v, Rt.quo (1024 * s) E = v := ⟨_, rfl⟩
        rw [hav] at QU qb hxn
        obtain ⟨qb1, qb2⟩ := qb
        have HXN2 := Lib.hid hxn
        have wq : IntKind.i64.wrap (1024 * s) = 1024 * s := IntWalk.i64_in _ (by omega)
        have HCS := Lib.hid cs
        have KT : Hid (∀ W, Bel wr W → W.cell? ⟨w.heap.size, 1, none⟩ = some (.slice (some ⟨a, 0, none⟩) n c) ∧ W.cell? ⟨w.heap.size, 2, none⟩ = some (.int .i64 E) ∧ W.cell? ⟨a, i, none⟩ = some (.int .i64 s)) := fun W hW => ⟨(KS.out W (HBW.out.tr hW)).2.1, (KS.out W (HBW.out.tr hW)).2.2, hW.kp HCS.out⟩
        clear hx hs' hav hqi cs hxn e1
        have HI8 : Hid (Bk (wr.alloc (.cells #[.int .i64 x1, .int .i64 x2] 45)) wr.heap.size 45 #[.int .i64 x1, .int .i64 x2]) := Bk.nw _ _ _
        have HB8 : Hid (Bel wr (wr.alloc (.cells #[.int .i64 x1, .int .i64 x2] 45))) := Bel.rf.al _
        have hln := HLN.out i hlt
        have hxsb := HXS.out i (by omega)
        have AD : Hid (∀ (d : Int) (W : World), d = dd av (x1, x2) → Bel wr W → Calls Try.prog 69 #[.pointer (some ⟨z, 0, none⟩), .int .i64 (i : Int), .int .i64 d] W fun e w' => e = .returned (.tuple #[]) ∧ Bk w' z 103 #[.int .i64 (xs m n X L (i + 1)), .int .i64 (2097152 * Q), .slice (some ⟨g, 0, none⟩) n n] ∧ Ch z W w') := fun d W hd hW => by
          have hdi := dd_in av (x1, x2) (by omega) (by omega) l1 l2 l3 l4
          rw [← hd] at hdi
          rw [HXN2.out, ← hd]
          exact add_ok z g n i (xs m n X L i) Q d _ (lns m n) (by omega) hlt rfl hln.1 hln.2 HCI.out.1 HCI.out.2 hdi.1 hdi.2 hxsb.1 (by omega) W (HK.out.bel hW) ((zi_bk ((HC.out.bk HG4.out HGN.out)) n (lns_len m n)).bel hW)
        have HQB : Hid (-2147483649 ≤ av ∧ av ≤ 2147483648) := ⟨qb1, qb2⟩
        clear hln hxsb
        go_upto_region 17 with fail
        refine wp_region_noPanic ?_
        refine wp_region_held_drew (S := fun W : World => W.cell? ⟨w.heap.size, 1, none⟩ = some (.slice (some ⟨a, 0, none⟩) n c) ∧ W.cell? ⟨w.heap.size, 2, none⟩ = some (.int .i64 E) ∧ W.cell? ⟨a, i, none⟩ = some (.int .i64 s)) (by kernel_rfl) ?_ (fun hH0 => ?_)
        · (try dsimp only); exact KT.out _ (HB8.out.tr (by repeat (first | exact Bel.rf | (with_reducible refine Bel.drwN ?_ _) | (with_reducible refine Bel.drw ?_) | (with_reducible refine Bel.al ?_ _))))
        refine wpAnyH_take (i := 0) (oi := ⟨some 51, .fieldAddr 64 (.tmp 2) 1, 0, "sketch.go:105", #[], none⟩) (v := ?_) rfl (by kernel_rfl) (by kernel_rfl) (by kernel_rfl) (fun _ _ _ h => h) (Or.inl ⟨by first | kernel_rfl | rfl, ?_⟩) (by assumption) ?_
        rotate_left
        · (intro w hSw; (try dsimp only at hSw); obtain ⟨d1, d2, d3⟩ := hSw; go_simp; try with_reducible rfl)
        try simp only [Act.put, List.setIfInBounds_toArray, List.set_cons_zero, List.set_cons_succ]
        refine wpAnyH_take (i := 1) (oi := ⟨some 52, .load 22 (.tmp 51), 22, "sketch.go:105", #[⟨0, .data⟩], none⟩) (v := ?_) rfl (by kernel_rfl) (by kernel_rfl) (by kernel_rfl) (fun _ _ _ h => h) (Or.inl ⟨by first | kernel_rfl | rfl, ?_⟩) (by assumption) ?_
        rotate_left
        · (intro w hSw; (try dsimp only at hSw); obtain ⟨d1, d2, d3⟩ := hSw; go_simp; try with_reducible rfl)
        try simp only [Act.put, List.setIfInBounds_toArray, List.set_cons_zero, List.set_cons_succ]
        refine wpAnyH_take (i := 2) (oi := ⟨some 53, .move (.tmp 7), 3, "sketch.go:105", #[], none⟩) (v := ?_) rfl (by kernel_rfl) (by kernel_rfl) (by kernel_rfl) (fun _ _ _ h => h) (Or.inl ⟨by first | kernel_rfl | rfl, ?_⟩) (by assumption) ?_
        rotate_left
        · (intro w hSw; (try dsimp only at hSw); obtain ⟨d1, d2, d3⟩ := hSw; go_simp; try with_reducible rfl)
        try simp only [Act.put, List.setIfInBounds_toArray, List.set_cons_zero, List.set_cons_succ]
        refine wpAnyH_take (i := 3) (oi := ⟨some 54, .indexAddr 22 (.tmp 52) (.tmp 53), 0, "sketch.go:105", #[⟨1, .data⟩, ⟨2, .data⟩], none⟩) (v := ?_) rfl (by kernel_rfl) (by kernel_rfl) (by kernel_rfl) (fun _ _ _ h => h) (Or.inl ⟨by first | kernel_rfl | rfl, ?_⟩) (by assumption) ?_
        rotate_left
        · (intro w hSw; (try dsimp only at hSw); obtain ⟨d1, d2, d3⟩ := hSw; go_simp; try with_reducible rfl)
        try simp only [Act.put, List.setIfInBounds_toArray, List.set_cons_zero, List.set_cons_succ]
        refine wpAnyH_take (i := 4) (oi := ⟨some 55, .load 3 (.tmp 54), 3, "sketch.go:105", #[⟨3, .data⟩], none⟩) (v := ?_) rfl (by kernel_rfl) (by kernel_rfl) (by kernel_rfl) (fun _ _ _ h => h) (Or.inl ⟨by first | kernel_rfl | rfl, ?_⟩) (by assumption) ?_
        rotate_left
        · (intro w hSw; (try dsimp only at hSw); obtain ⟨d1, d2, d3⟩ := hSw; go_simp; try with_reducible rfl)
        try simp only [Act.put, List.setIfInBounds_toArray, List.set_cons_zero, List.set_cons_succ]
        refine wpAnyH_take (i := 5) (oi := ⟨some 56, .binOp BinOp.mul 3 (.const (.int IntKind.i64 1024)) (.tmp 55) 3, 3, "sketch.go:105", #[⟨4, .data⟩], none⟩) (v := ?_) rfl (by kernel_rfl) (by kernel_rfl) (by kernel_rfl) (fun _ _ _ h => h) (Or.inl ⟨by first | kernel_rfl | rfl, ?_⟩) (by assumption) ?_
        rotate_left
        · (intro w hSw; (try dsimp only at hSw); obtain ⟨d1, d2, d3⟩ := hSw; go_simp; try with_reducible rfl)
        try simp only [Act.put, List.setIfInBounds_toArray, List.set_cons_zero, List.set_cons_succ]
        refine wpAnyH_take (i := 6) (oi := ⟨some 57, .fieldAddr 64 (.tmp 2) 2, 0, "sketch.go:105", #[], none⟩) (v := ?_) rfl (by kernel_rfl) (by kernel_rfl) (by kernel_rfl) (fun _ _ _ h => h) (Or.inl ⟨by first | kernel_rfl | rfl, ?_⟩) (by assumption) ?_
        rotate_left
        · (intro w hSw; (try dsimp only at hSw); obtain ⟨d1, d2, d3⟩ := hSw; go_simp; try with_reducible rfl)
        try simp only [Act.put, List.setIfInBounds_toArray, List.set_cons_zero, List.set_cons_succ]
        refine wpAnyH_take (i := 7) (oi := ⟨some 58, .load 3 (.tmp 57), 3, "sketch.go:105", #[⟨6, .data⟩], none⟩) (v := ?_) rfl (by kernel_rfl) (by kernel_rfl) (by kernel_rfl) (fun _ _ _ h => h) (Or.inl ⟨by first | kernel_rfl | rfl, ?_⟩) (by assumption) ?_
        rotate_left
        · (intro w hSw; (try dsimp only at hSw); obtain ⟨d1, d2, d3⟩ := hSw; go_simp; try with_reducible rfl)
        try simp only [Act.put, List.setIfInBounds_toArray, List.set_cons_zero, List.set_cons_succ]
        refine wpAnyH_ready (rs := [8]) (by kernel_rfl) (by simp) ?_
        refine AllReadyH.cons (o := ⟨some 59, .call { callee := Callee.value (.func 51), args := #[.tmp 56, .tmp 58], argTypes := #[3, 3] }, 88, "sketch.go:105", #[⟨5, .data⟩, ⟨7, .data⟩], none⟩) rfl (fun K hK => ?_) AllReadyH.nil
        go_simp
        go_at_call 51; refine (QU.out _).mono ?_; rintro e wq ⟨rfl, rfl⟩
        try go_wp2_with fail
        refine hK.out _ _ ?_ (fun hH1 => ?_)
        · (try dsimp only); exact KT.out _ (HB8.out.tr (by repeat (first | exact Bel.rf | (with_reducible refine Bel.drwN ?_ _) | (with_reducible refine Bel.drw ?_) | (with_reducible refine Bel.al ?_ _))))
        clear hK K hH0
        try simp only [Act.put, List.setIfInBounds_toArray, List.set_cons_zero, List.set_cons_succ]
        refine wpAnyH_take (i := 9) (oi := ⟨some 50, .move (.tmp 59), 88, "sketch.go:105", #[⟨8, .data⟩], none⟩) (v := ?_) rfl (by kernel_rfl) (by kernel_rfl) (by kernel_rfl) (fun _ _ _ h => h) (Or.inl ⟨by first | kernel_rfl | rfl, ?_⟩) (by assumption) ?_
        rotate_left
        · (intro w hSw; (try dsimp only at hSw); obtain ⟨d1, d2, d3⟩ := hSw; go_simp; try with_reducible rfl)
        try simp only [Act.put, List.setIfInBounds_toArray, List.set_cons_zero, List.set_cons_succ]
        refine wpAnyH_take (i := 10) (oi := ⟨some 60, .extract (.tmp 50) 0, 3, "sketch.go:105", #[⟨9, .data⟩], none⟩) (v := ?_) rfl (by kernel_rfl) (by kernel_rfl) (by kernel_rfl) (fun _ _ _ h => h) (Or.inl ⟨by first | kernel_rfl | rfl, ?_⟩) (by assumption) ?_
        rotate_left
        · (intro w hSw; (try dsimp only at hSw); obtain ⟨d1, d2, d3⟩ := hSw; go_simp; try with_reducible rfl)
        try simp only [Act.put, List.setIfInBounds_toArray, List.set_cons_zero, List.set_cons_succ]
        refine wpAnyH_take (i := 11) (oi := ⟨some 61, .extract (.tmp 50) 1, 33, "sketch.go:105", #[⟨9, .data⟩, ⟨12, .gcOnly Departure.lateStores⟩], none⟩) (v := ?_) rfl (by kernel_rfl) (by kernel_rfl) (by kernel_rfl) (fun _ _ _ h => h) (Or.inl ⟨by first | kernel_rfl | rfl, ?_⟩) (by assumption) ?_
        rotate_left
        · (intro w hSw; (try dsimp only at hSw); obtain ⟨d1, d2, d3⟩ := hSw; go_simp; try with_reducible rfl)
        try simp only [Act.put, List.setIfInBounds_toArray, List.set_cons_zero, List.set_cons_succ]
        refine wpAnyH_take (i := 12) (oi := ⟨some 9, .assign (.tmp 60), 3, "sketch.go:105", #[⟨10, .data⟩, ⟨8, .chain⟩, ⟨0, .phase⟩, ⟨1, .phase⟩, ⟨2, .phase⟩, ⟨3, .phase⟩, ⟨4, .phase⟩, ⟨5, .phase⟩, ⟨6, .phase⟩, ⟨7, .phase⟩, ⟨8, .phase⟩, ⟨9, .phase⟩, ⟨10, .phase⟩, ⟨11, .textOnly Departure.lateStores⟩], none⟩) (v := ?_) rfl (by kernel_rfl) (by kernel_rfl) (by kernel_rfl) (fun _ _ _ h => h) (Or.inl ⟨by first | kernel_rfl | rfl, ?_⟩) (by assumption) ?_
        rotate_left
        · (intro w hSw; (try dsimp only at hSw); obtain ⟨d1, d2, d3⟩ := hSw; go_simp; try with_reducible rfl)
        try simp only [Act.put, List.setIfInBounds_toArray, List.set_cons_zero, List.set_cons_succ]
        refine wpAnyH_take (i := 13) (oi := ⟨some 10, .assign (.tmp 61), 33, "sketch.go:105", #[⟨11, .data⟩, ⟨12, .chain⟩, ⟨0, .phase⟩, ⟨1, .phase⟩, ⟨2, .phase⟩, ⟨3, .phase⟩, ⟨4, .phase⟩, ⟨5, .phase⟩, ⟨6, .phase⟩, ⟨7, .phase⟩, ⟨8, .phase⟩, ⟨9, .phase⟩, ⟨10, .phase⟩, ⟨11, .phase⟩, ⟨12, .phase⟩], none⟩) (v := ?_) rfl (by kernel_rfl) (by kernel_rfl) (by kernel_rfl) (fun _ _ _ h => h) (Or.inl ⟨by first | kernel_rfl | rfl, ?_⟩) (by assumption) ?_
        rotate_left
        · (intro w hSw; (try dsimp only at hSw); obtain ⟨d1, d2, d3⟩ := hSw; go_simp; try with_reducible rfl)
        try simp only [Act.put, List.setIfInBounds_toArray, List.set_cons_zero, List.set_cons_succ]
        refine wpAnyH_done (by kernel_rfl) ?_ _
        refine NoPanic.normal ?_
        go_wp2_with fail
        all_goals
          go_at_call 69
          refine (AD.out _ _ (by show _ = dd _ _; unfold dd; dsimp only; omega) (HB8.out.tr (by repeat (first | exact Bel.rf | (with_reducible refine Bel.drwN ?_ _) | (with_reducible refine Bel.drw ?_) | (with_reducible refine Bel.al ?_ _))))).mono ?_
          rintro e w5 ⟨rfl, hk5, hc5⟩
          have HCE : Hid (Ch z (w4.alloc (.cells #[.int .i64 0, .int .i64 (2097152 * Q), .slice (some ⟨g, 0, none⟩) n n] 103)) w5) := HC.out.tr (Ch.tr (Ch.of_bel (HB8.out.tr (by repeat (first | exact Bel.rf | (with_reducible refine Bel.drwN ?_ _) | (with_reducible refine Bel.drw ?_) | (with_reducible refine Bel.al ?_ _))))) hc5)
          have HKE := Lib.hid hk5
          clear hk5 hc5
          go_wp2
          go_roundw
          case rel => exact ⟨i + 1, _, rfl, by omega, by go_num, (by repeat (first | exact HKE.out | (with_reducible refine Bk.drwN ?_ _) | (with_reducible refine Bk.drw ?_))), (by repeat (first | exact HCE.out | (with_reducible refine Ch.drwN ?_ _) | (with_reducible refine Ch.drw ?_)))⟩
          case measure => simp [intOf]; omega
      · obtain rfl : i = n := by omega
        have hxsb := HXS.out i (Nat.le_refl _)
        have k0 := HK.out.cell 0
        have k1 := HK.out.cell 1
        have k2 := HK.out.cell 2
        simp only [List.getElem?_toArray, List.getElem?_cons_zero, List.getElem?_cons_succ] at k0 k1 k2
        have BD : Hid (∀ W, Calls Try.prog 70 #[.agg #[.int .i64 (xs m i X L i), .int .i64 (2097152 * Q), .slice (some ⟨g, 0, none⟩) i i]] W fun e w' => (∃ t u, e = .returned (.tuple #[.agg #[.int .i64 t, .int .i64 u], .int .i64 0]) ∧ Vl t u T C) ∧ Bel W w') := fun W => by
          rw [HT1.out, HC1.out]
          have := HCI.out
          exact bound_ok (xs m i X L i) (2097152 * Q) _ i i hxsb.1 (by omega) (by omega) (by omega) W
        obtain ⟨XN, hXN⟩ : ∃ v, xs m i X L i = v := ⟨_, rfl⟩
        rw [hXN] at k0 BD
        clear hxsb hXN
        go_wp2_with fail
        go_at_call 70
        refine (BD.out _).mono ?_
        rintro e w5 ⟨⟨t, u, rfl, hvl⟩, hb⟩
        have HVL := Lib.hid hvl
        have H5 : Hid (Bel _ w5) := HBW.out.tr (Bel.tr (by repeat (first | exact Bel.rf | (with_reducible refine Bel.drwN ?_ _) | (with_reducible refine Bel.drw ?_) | (with_reducible refine Bel.al ?_ _))) hb)
        obtain ⟨k1', k2', y0, y1, z0, z1⟩ := KR.out w5 H5.out t u
        have HK1 := Lib.hid k1'
        have HK2 := Lib.hid k2'
        clear hb hvl k1' k2' k0 k1 k2
        go_wp2
        exact bodyPost_ret (v := .tuple #[.agg #[.int .i64 t, .int .i64 u], .int .i64 0]) (results_rt Try.results29 _ _ (w.heap.size + 1) _ _ _ rfl rfl HK1.out) rfl ⟨⟨t, u, rfl, HVL.out⟩, HK2.out⟩
end Go.Proofs.Ytgdhgeongdenpaa.Sk
namespace Go.Proofs.Ytgdhgeongdenpaa.Sk
open Go.ChangeShapes Go.WideShapes Go.RowKit Wo Sr Wi Nr Pc Eu Ra
open Wd (Rp rs rs_at rs_cons)
set_option linter.unusedVariables false
set_option linter.unusedSimpArgs false
theorem wp_appg (w : World) {o : Oper} {a : Act} {K : Act → World → Prop} {Q : Exit → Act → World → Prop} (s x : Operand) (t e : TypeId) (z : Value) (size bytes : Nat) (hu : Try.prog.underlying t = some (.slice e))
    (hi : (Try.prog.info? e).map (fun i => (i.zero, i.size, i.bytes)) = some (some z, size, bytes)) (hzs : z.cells.size = size) (hsz : 0 < size)
    (ho : o.op = .call { callee := .builtin .append, args := #[s, x], argTypes := #[t, t] })
    (base : Nat) (v : Value) (n : Nat) (L : List Value) (hs : a.eval s = v) (hown : w.ownsRow base e size v n L) (ad : Addr) (m c : Nat) (M : List Value) (hx : a.eval x = .slice (some ad) m c) (hl : M.length = m * size)
    (hM : ∀ j u, M[j]? = some u → w.cell? (ad.add j) = some u) (h1 : ∀ u ∈ M, u.oneCell' = true) (hn : n + m ≤ 1000000) (hb : bytes ≤ 1000) (hbase : base ≤ w.heap.size)
    (h : ∀ v' w', w'.ownsRow base e size v' (n + m) (L ++ M) → w.grownBy w' v.ownBlock → (v'.ownBlock = v.ownBlock ∨ v'.ownBlock = some w.heap.size) → K (a.put o.dst v') w') : o.wp Try.prog a w K Q := by
  obtain ⟨i0, hi0, hz0, hz1, hz2⟩ := info_parts hi
  obtain ⟨v', w', hr, h2, h3, _, h5⟩ := run_append_own_at (P := Try.prog) w base t o.type e i0 z size bytes hu hi0 hz0 hz1 hz2 hzs hsz v n L hown ad m c M hl hM h1 (by unfold maxLen; omega) (by
    have : (n + m) * bytes ≤ 1000000 * 1000 := Nat.mul_le_mul hn hb
    omega) hbase
  unfold Oper.wp execOp
  simp only [ho, resolve, invoke, builtin, Sem.run_bind, Sem.run_pure, Result.andThen_ok, List.map_toArray, List.map_cons, List.map_nil, hs, hx, hr]
  exact h v' w' h2 h3 h5
theorem step_appg (w : World) {ops : Array Oper} {o : Oper} {a : Act} {K : Act → World → Prop} {Q : Exit → Act → World → Prop} {E : Prop} (hgd : o.guard = none) (s x : Operand) (t e : TypeId) (z : Value) (size bytes : Nat) (hu : Try.prog.underlying t = some (.slice e))
    (hi : (Try.prog.info? e).map (fun i => (i.zero, i.size, i.bytes)) = some (some z, size, bytes)) (hzs : z.cells.size = size) (hsz : 0 < size)
    (ho : o.op = .call { callee := .builtin .append, args := #[s, x], argTypes := #[t, t] })
    (base : Nat) (v : Value) (n : Nat) (L : List Value) (hs : a.eval s = v) (hown : w.ownsRow base e size v n L) (ad : Addr) (m c : Nat) (M : List Value) (hx : a.eval x = .slice (some ad) m c) (hl : M.length = m * size)
    (hM : ∀ j u, M[j]? = some u → w.cell? (ad.add j) = some u) (h1 : ∀ u ∈ M, u.oneCell' = true) (hn : n + m ≤ 1000000) (hb : bytes ≤ 1000) (hbase : base ≤ w.heap.size)
    (h : ∀ v' w', w'.ownsRow base e size v' (n + m) (L ++ M) → w.grownBy w' v.ownBlock → (v'.ownBlock = v.ownBlock ∨ v'.ownBlock = some w.heap.size) → K (a.put o.dst v') w') :
    if Region.wanted o (yielded ops a.tmps) = true then Oper.wp Try.prog o a w K Q else E := by
  have hw : Region.wanted o (yielded ops a.tmps) = true := by simp [Region.wanted, hgd]
  rw [if_pos hw]
  exact wp_appg w s x t e z size bytes hu hi hzs hsz ho base v n L hs hown ad m c M hx hl hM h1 hn hb hbase h
theorem list_appg (w : World) {ops : Array Oper} {rest : List Oper} {o : Oper} {a : Act} {Q : Exit → Act → World → Prop} (hgd : o.guard = none) (s x : Operand) (t e : TypeId) (z : Value) (size bytes : Nat) (hu : Try.prog.underlying t = some (.slice e))
    (hi : (Try.prog.info? e).map (fun i => (i.zero, i.size, i.bytes)) = some (some z, size, bytes)) (hzs : z.cells.size = size) (hsz : 0 < size)
    (ho : o.op = .call { callee := .builtin .append, args := #[s, x], argTypes := #[t, t] })
    (base : Nat) (v : Value) (n : Nat) (L : List Value) (hs : a.eval s = v) (hown : w.ownsRow base e size v n L) (ad : Addr) (m c : Nat) (M : List Value) (hx : a.eval x = .slice (some ad) m c) (hl : M.length = m * size)
    (hM : ∀ j u, M[j]? = some u → w.cell? (ad.add j) = some u) (h1 : ∀ u ∈ M, u.oneCell' = true) (hn : n + m ≤ 1000000) (hb : bytes ≤ 1000) (hbase : base ≤ w.heap.size)
    (h : ∀ v' w', w'.ownsRow base e size v' (n + m) (L ++ M) → w.grownBy w' v.ownBlock → (v'.ownBlock = v.ownBlock ∨ v'.ownBlock = some w.heap.size) → wpList Try.prog ops Q rest (a.put o.dst v') w') : wpList Try.prog ops Q (o :: rest) a w :=
  wpList_plain hgd fun _ hK => wp_appg w s x t e z size bytes hu hi hzs hsz ho base v n L hs hown ad m c M hx hl hM h1 hn hb hbase fun v' w' h2 h3 h5 => hK _ _ (h v' w' h2 h3 h5)
/-- a row that lies in no elder block -/
def Fz (w : World) (A : Option Addr) (n : Nat) : Prop := 0 < n → ∀ ad, A = some ad → w.heap.size ≤ ad.block
theorem own_zx {w : World} {base k : Nat} {v : Value} {L : List Int} (h : w.ownsRow base 3 1 v k (zs L)) (hk : L.length = k) : ∃ A c, v = .slice A k c ∧ Zi w A k L := by
  obtain ⟨A, c, rfl, hp⟩ := own_any h
  rcases Nat.eq_zero_or_pos k with h0 | h0
  · exact ⟨A, c, rfl, hk, fun h => by omega⟩
  · obtain ⟨r, rfl⟩ := hp h0
    exact ⟨_, c, rfl, own_zi h hk⟩
theorem own_fz {w w0 : World} {base k c : Nat} {A : Option Addr} {L : List Int} (h : w.ownsRow base 3 1 (.slice A k c) k (zs L)) (hb : w0.heap.size ≤ base) : Fz w0 A k := fun h0 ad e => by
  obtain ⟨r, c', e', _, hr⟩ := row_form h h0
  injection e' with e1
  rw [e] at e1
  injection e1 with e1
  subst e1
  exact Nat.le_trans hb hr
theorem info_ivl : (Try.prog.info? 45).map (fun i => (i.zero, i.size, i.bytes)) = some (some (.agg #[.int .i64 0, .int .i64 0]), 2, 16) := by kernel_rfl
/-- two rows of intervals -/
structure Wr (g base : Nat) (w V : World) (u v : Value) (nu nv : Nat) (S B : List Rp) : Prop where
  ou : V.ownsRow base 45 2 u nu (rs S)
  ov : V.ownsRow base 45 2 v nv (rs B)
  ap : ∀ b, u.ownBlock = some b → v.ownBlock ≠ some b
  ok : Ok V g
  ch : Ch g w V
  sz : base ≤ V.heap.size
  gb : g < base
  wb : w.heap.size ≤ base
theorem Wr.sx {g base : Nat} {w V : World} {u v : Value} {nu nv : Nat} {S B : List Rp} (h : Wr g base w V u v nu nv S B) : Wr g base w V v u nv nu B S :=
  ⟨h.ov, h.ou, fun b e e2 => h.ap b e2 e, h.ok, h.ch, h.sz, h.gb, h.wb⟩
theorem Wr.to {g base : Nat} {w V V' : World} {u v : Value} {nu nv : Nat} {S B : List Rp} (h : Wr g base w V u v nu nv S B) (ho : Ok V' g) (hc : Ch g V V') : Wr g base w V' u v nu nv S B :=
  ⟨own_ch h.ou hc h.gb, own_ch h.ov hc h.gb, h.ap, ho, h.ch.tr hc, Nat.le_trans h.sz hc.sz, h.gb, h.wb⟩
theorem Wr.up {g base : Nat} {w V V' : World} {u v : Value} {nu nv : Nat} {S B : List Rp} (h : Wr g base w V u v nu nv S B) (hb : Bel V V') : Wr g base w V' u v nu nv S B := h.to (h.ok.bel hb) (Ch.of_bel hb)
theorem Wr.ax {g base : Nat} {w V V' : World} {u v u' : Value} {nu nv : Nat} {S B : List Rp} {s : Rp} (h : Wr g base w V u v nu nv S B)
    (h1 : V'.ownsRow base 45 2 u' (nu + 1) (rs (S ++ [s]))) (hg : V.grownBy V' u.ownBlock) (hat : u'.ownBlock = u.ownBlock ∨ u'.ownBlock = some V.heap.size) : Wr g base w V' u' v (nu + 1) nv (S ++ [s]) B := by
  refine ⟨h1, h.ov.kept hg (Classical.or_iff_not_imp_left.2 fun hn e => ?_), fun b e e2 => ?_, ok_grown h.ok hg (fun b e => ?_), ch_grown h.ch hg (fun b e => ?_), Nat.le_trans h.sz hg.size, h.gb, h.wb⟩
  · rcases hx : u.ownBlock with _ | q
    · rw [hx] at e; exact hn e
    · rw [hx] at e; exact h.ap q hx e
  · rcases hat with hat | hat
    · rw [hat] at e; exact h.ap b e e2
    · rw [hat] at e; cases e
      have := (h.ov.lt _ e2).2
      omega
  · have := (h.ou.lt b e).1; have := h.gb; omega
  · have := (h.ou.lt b e).1; have := h.wb; omega
theorem rs_snoc (S : List Rp) (s : Rp) : rs (S ++ [s]) = rs S ++ [.int .i64 s.1, .int .i64 s.2] := by simp [rs]
theorem row_zv {w : World} {base h c n : Nat} {L : List Rp} (hr : w.ownsRow base 45 2 (.slice (some ⟨h, 0, none⟩) n c) n (rs L)) (hl : L.length = n) : Zv w h n L := ⟨hl, fun p hp => by
  obtain ⟨e1, e2⟩ := rs_at L p (by omega)
  have a := hr.cells (g := h) rfl (p * 2) _ e1
  have b := hr.cells (g := h) rfl (p * 2 + 1) _ e2
  first | rw [add_row] at a b | skip
  exact ⟨a, b⟩⟩
/-- the intervals that are drawn, the narrow ones within the wide ones -/
def Nrw (p : Nat) (S B : List Rp) : Prop := S.length = p ∧ B.length = p ∧ ∀ i, i < p → -400 ≤ (S.getD i (0, 0)).1 ∧ (S.getD i (0, 0)).1 ≤ (B.getD i (0, 0)).1 ∧ (B.getD i (0, 0)).1 ≤ (B.getD i (0, 0)).2 ∧ (B.getD i (0, 0)).2 ≤ (S.getD i (0, 0)).2 ∧ (S.getD i (0, 0)).2 ≤ 700
theorem nrw_snoc {p : Nat} {S B : List Rp} {s b : Rp} (h : Nrw p S B) (h1 : -400 ≤ s.1) (h2 : s.1 ≤ b.1) (h3 : b.1 ≤ b.2) (h4 : b.2 ≤ s.2) (h5 : s.2 ≤ 700) : Nrw (p + 1) (S ++ [s]) (B ++ [b]) := by
  obtain ⟨lS, lB, hh⟩ := h
  refine ⟨by simp [lS], by simp [lB], fun i hi => ?_⟩
  rw [List.getD_eq_getElem?_getD (l := S ++ [s]), List.getD_eq_getElem?_getD (l := B ++ [b])]
  rcases Nat.lt_or_ge i p with q | q
  · rw [List.getElem?_append_left (by omega), List.getElem?_append_left (by omega), ← List.getD_eq_getElem?_getD, ← List.getD_eq_getElem?_getD]
    exact hh i q
  · obtain rfl : i = p := by omega
    rw [List.getElem?_append_right (by omega), List.getElem?_append_right (by omega), lS, lB, Nat.sub_self]
    exact ⟨h1, h2, h3, h4, h5⟩
/-- a new scheme for the normal measure -/
def SomeNm (q : Nat) (w : World) (e : Ending) (w' : World) : Prop := ∃ m n A nc cc C, e = .returned (Wd.Sx 3 0 0 m n A nc cc) ∧ Wd.Sv 3 0 0 m n C ∧ Zi w' A nc C ∧ Fz w A nc ∧ Ok w' q ∧ Ch q w w'
set_option maxHeartbeats 8000000 in
set_option maxRecDepth 100000 in
theorem normal_any (q : Nat) (w : World) (h : Ok w q) : Calls Try.prog 26 #[.pointer (some ⟨q, 0, none⟩)] w (SomeNm q w) := by
  have HGB := Lib.hid h.lt
  have HO0 := Lib.hid h
  have HR0 : Hid (Bk (w.alloc (.cells #[.int .i64 0, .int .i64 0, .int .i64 0, .int .i64 0, .int .i64 0, .slice none 0 0] 28)) w.heap.size 28 #[.int .i64 0, .int .i64 0, .int .i64 0, .int .i64 0, .int .i64 0, .slice none 0 0]) := Bk.nw _ _ _
  clear h
  go_enter Try.func26, Try.ntmps26
  go_wp2_with fail
  go_at_call 11
  refine (Wd.scheme_any q _ (HO0.out.bel (by repeat (first | exact Bel.rf | (with_reducible refine Bel.drwN ?_ _) | (with_reducible refine Bel.drw ?_) | (with_reducible refine Bel.al ?_ _))))).mono ?_
  rintro e w1 ⟨k, b, g, m, n, A, nc, cc, C, rfl, hs, hown, hCl, ho, hc⟩
  have HS := Lib.hid hs
  have HSN : Hid (Wd.Sv 3 0 0 m n C) := ⟨.inl ⟨.inr (.inr rfl), rfl, rfl⟩, hs.m2, hs.m32, hs.n1, hs.n8, hs.nm, hs.cv⟩
  have hc1 : Ch q w w1 := (Ch.of_bel (by repeat (first | exact Bel.rf | (with_reducible refine Bel.drwN ?_ _) | (with_reducible refine Bel.drw ?_) | (with_reducible refine Bel.al ?_ _)))).tr hc
  have HC1 := Lib.hid hc1
  have HO1 := Lib.hid ho
  have HR1 : Hid (Bk w1 w.heap.size 28 #[.int .i64 0, .int .i64 0, .int .i64 0, .int .i64 0, .int .i64 0, .slice none 0 0]) := hc.bk ((by repeat (first | exact HR0.out | (with_reducible refine Bk.drwN ?_ _) | (with_reducible refine Bk.drw ?_)))) (by have := HGB.out; omega)
  have hF : Fz w A nc := own_fz hown (by (try simp))
  have hF1 : 0 < nc → ∀ ad, A = some ad → ad.block ≠ w.heap.size := fun h0 ad e => by
    have : w.heap.size + 1 ≤ ad.block := by
      obtain ⟨r, c', e', _, hr⟩ := row_form hown h0
      injection e' with e1
      rw [e] at e1
      injection e1 with e1
      subst e1
      simpa using hr
    omega
  obtain ⟨A', c', e', hz⟩ := own_zx hown hCl
  cases e'
  have HZ := Lib.hid hz
  have HF := Lib.hid hF
  have HF1 := Lib.hid hF1
  have HL1 : Hid (w.heap.size < w1.heap.size) := HR1.out.lt
  clear hs hown hCl ho hc hc1 hF hF1 hz
  unfold Wd.Sx
  go_upto_region 3 with fail
  have HV2 : Hid (Bel w1 (w1.alloc (.cells #[.int .i64 3, .int .i64 0, .int .i64 0, .int .i64 (m : Int), .int .i64 (n : Int), .slice A nc cc] 28))) := Bel.rf.al _
  have HS2 : Hid (Bk (w1.alloc (.cells #[.int .i64 3, .int .i64 0, .int .i64 0, .int .i64 (m : Int), .int .i64 (n : Int), .slice A nc cc] 28)) w1.heap.size 28 #[.int .i64 3, .int .i64 0, .int .i64 0, .int .i64 (m : Int), .int .i64 (n : Int), .slice A nc cc]) := Bk.nw _ _ _
  have HZV : Hid (Zi (w1.alloc (.cells #[.int .i64 3, .int .i64 0, .int .i64 0, .int .i64 (m : Int), .int .i64 (n : Int), .slice A nc cc] 28)) A nc C) := HZ.out.bel (Bel.rf.al _)
  obtain ⟨v2, hv2⟩ : ∃ V, w1.alloc (.cells #[.int .i64 3, .int .i64 0, .int .i64 0, .int .i64 (m : Int), .int .i64 (n : Int), .slice A nc cc] 28) = V := ⟨_, rfl⟩
  obtain ⟨s, hs1⟩ : ∃ s, w1.heap.size = s := ⟨_, rfl⟩
  have hsn : s ≠ w.heap.size := by have := HL1.out; omega
  have HSN2 := Lib.hid hsn
  rw [hv2] at HV2 HS2 HZV ⊢
  rw [hs1] at HS2 ⊢
  have HR2 := Lib.hid (HR1.out.bel HV2.out)
  have r0 := HR2.out.cell 0
  have r1 := HR2.out.cell 1
  have r2 := HR2.out.cell 2
  have r3 := HR2.out.cell 3
  have r4 := HR2.out.cell 4
  have r5 := HR2.out.cell 5
  have u0 := HS2.out.cell 0
  have u1 := HS2.out.cell 1
  have u2 := HS2.out.cell 2
  have u3 := HS2.out.cell 3
  have u4 := HS2.out.cell 4
  have u5 := HS2.out.cell 5
  have e0 := HR2.out.fr 0
  have e1 := HR2.out.fr 1
  have e2 := HR2.out.fr 2
  have e3 := HR2.out.fr 3
  have e4 := HR2.out.fr 4
  have e5 := HR2.out.fr 5
  simp only [List.getElem?_toArray, List.getElem?_cons_zero, List.getElem?_cons_succ] at r0 r1 r2 r3 r4 r5 u0 u1 u2 u3 u4 u5
  have HCV : Hid (Ch q w v2) := HC1.out.tr (Ch.of_bel HV2.out)
  have HOV : Hid (Ok v2 q) := HO1.out.bel HV2.out
  clear hv2 hs1
  go_wp2
  exact bodyPost_ret (v := Wd.Sx 3 0 0 m n A nc cc) (Wd.results_s Try.results26 _ _ w.heap.size _ _ _ _ _ _ rfl ((((((HR2.out.st 0 _).st 1 _).st 2 _).st 3 _).st 4 _).st 5 _)) rfl ⟨m, n, A, nc, cc, C, rfl, HSN.out, ⟨HZV.out.1, fun h0 => (HZV.out.ch ((((((((Ch.rf (g := w.heap.size)).st 0 _).st 1 _).st 2 _).st 3 _).st 4 _).st 5 _)) (HF1.out h0)).2 h0⟩, HF.out, ((((((HOV.out.st HGB.out _).st HGB.out _).st HGB.out _).st HGB.out _).st HGB.out _).st HGB.out _), ((((((HCV.out.st2 (Nat.le_refl _) _).st2 (Nat.le_refl _) _).st2 (Nat.le_refl _) _).st2 (Nat.le_refl _) _).st2 (Nat.le_refl _) _).st2 (Nat.le_refl _) _)⟩
end Go.Proofs.Ytgdhgeongdenpaa.Sk
