/- Merged: SnB SqM SrM SrN WdX. -/
import Derived.Test.YtmgdoglnckkobaaGs1
import Derived.Test.YtmgdoglnckkobaaGs2
import Derived.Test.YtmgdoglnckkobaaGs3
import Derived.Deep.DeepCutAuto
import Derived.Deep.CutBlock
import Derived.Deep.CutRange
namespace Go.Proofs.Ytmgdoglnckkobaa.Sk
open Go.ChangeShapes Go.WideShapes Go.RowKit Wo Sr Wi Nr Pc Eu Ra
open Wd (Rp rs rs_at rs_cons)
set_option linter.unusedVariables false
set_option linter.unusedSimpArgs false
/-- a row of intervals -/
def Zv (w : World) (h n : Nat) (L : List Rp) : Prop := L.length = n ∧ ∀ p, p < n → w.cell? ⟨h, p * 2, none⟩ = some (.int .i64 (L.getD p (0, 0)).1) ∧ w.cell? ⟨h, p * 2 + 1, none⟩ = some (.int .i64 (L.getD p (0, 0)).2)
theorem Zv.bel {w w' : World} {h n : Nat} {L : List Rp} (z : Zv w h n L) (hb : Bel w w') : Zv w' h n L := ⟨z.1, fun p hp => ⟨hb.kp (z.2 p hp).1, hb.kp (z.2 p hp).2⟩⟩
/-- an interval that does not hold 0 -/
def offz (L : List Rp) (p : Nat) : Prop := 0 < (L.getD p (0, 0)).1 ∨ (L.getD p (0, 0)).2 < 0
instance (L : List Rp) (p : Nat) : Decidable (offz L p) := by unfold offz; exact inferInstance
/-- whether one of them does not hold 0 -/
def anyo (L : List Rp) (n : Nat) : Prop := ∃ p, p < n ∧ offz L p
instance (L : List Rp) (n : Nat) : Decidable (anyo L n) := by unfold anyo; exact inferInstance
set_option maxHeartbeats 8000000 in
set_option maxRecDepth 100000 in
theorem beyond_ok (h c n : Nat) (L : List Rp) (n8 : n ≤ 8) (hL : ∀ p, p < n → (-1099511627776 ≤ (L.getD p (0, 0)).1 ∧ (L.getD p (0, 0)).1 ≤ 1099511627776) ∧ -1099511627776 ≤ (L.getD p (0, 0)).2 ∧ (L.getD p (0, 0)).2 ≤ 1099511627776) (w : World) (hz : Zv w h n L) :
    Calls Try.prog 106 #[.slice (some ⟨h, 0, none⟩) n c, .func (.func 77) #[] #[]] w fun e w' => e = .returned (.int .i64 (-1)) ∧ Bel w w' := by
  have HZ := Lib.hid hz
  have HL := Lib.hid hL
  have ni : (n : Int) ≤ 8 := by omega
  have HF : Hid (∀ (a b : Int) (W : World), (-1099511627776 ≤ a ∧ a ≤ 1099511627776) ∧ -1099511627776 ≤ b ∧ b ≤ 1099511627776 → Calls Try.prog 77 #[.agg #[.int .i64 a, .int .i64 b]] W fun e w' => e = .returned (.bool false) ∧ Bel W w') := fun a b W hab => by
    have q1 : ¬ a < -1099511627776 := by omega
    have q2 : ¬ 1099511627776 < a := by omega
    have q3 : ¬ b < -1099511627776 := by omega
    have q4 : ¬ 1099511627776 < b := by omega
    have r1 : decide (a < -1099511627776) = false := decide_eq_false q1
    have r2 : decide (a > 1099511627776) = false := decide_eq_false q2
    have r3 : decide (b < -1099511627776) = false := decide_eq_false q3
    have r4 : decide (b > 1099511627776) = false := decide_eq_false q4
    go_enter Try.func77, Try.ntmps77
    go_wp2
    go_ret
    exact ⟨rfl, (by repeat (first | exact Bel.rf | (with_reducible refine Bel.drwN ?_ _) | (with_reducible refine Bel.drw ?_) | (with_reducible refine Bel.al ?_ _)))⟩
  clear hz hL
  go_enter Try.func106, Try.ntmps106
  go_wp2
  go_loopw [8] (fun s8 wr => ∃ (i : Nat) (V : World), V = wr ∧ i ≤ n ∧ s8 = .int .i64 (i : Int) ∧ Bel w wr) (fun s8 _ => n - (intOf s8).toNat)
  case atStart => exact ⟨0, _, rfl, by omega, rfl, (by repeat (first | exact Bel.rf | (with_reducible refine Bel.drwN ?_ _) | (with_reducible refine Bel.drw ?_) | (with_reducible refine Bel.al ?_ _)))⟩
  case round =>
    obtain ⟨i, wr, hwr, hi, rfl, hb⟩ := hrel
    subst hwr
    have HB := Lib.hid hb
    rcases Nat.lt_or_ge i n with hlt | hge
    · obtain ⟨c1, c2⟩ := (HZ.out.bel hb).2 i hlt
      have hab := HL.out i hlt
      obtain ⟨x, hx⟩ : ∃ x, L.getD i (0, 0) = x := ⟨_, rfl⟩
      rw [hx] at c1 c2 hab
      obtain ⟨x1, x2⟩ := x
      dsimp only at c1 c2 hab
      have HAB := Lib.hid hab
      have ii : (i : Int) < (n : Int) := by omega
      have i0 : (0 : Int) ≤ (i : Int) := by omega
      clear hb hx hab
      go_wp2_with (go_at_call 77; refine (HF.out x1 x2 _ HAB.out).mono ?_; rintro e w1 ⟨rfl, hb1⟩; have HB1 : Hid (Bel w w1) := HB.out.tr (Bel.tr (by repeat (first | exact Bel.rf | (with_reducible refine Bel.drwN ?_ _) | (with_reducible refine Bel.drw ?_) | (with_reducible refine Bel.al ?_ _))) hb1); clear hb1)
      go_roundw
      case rel => exact ⟨i + 1, _, rfl, by omega, by go_num, (by repeat (first | exact HB1.out | (with_reducible refine Bel.drwN ?_ _) | (with_reducible refine Bel.drw ?_) | (with_reducible refine Bel.al ?_ _)))⟩
      case measure => simp [intOf]; omega
    · obtain rfl : i = n := by omega
      clear hb
      go_wp2
      go_ret
      exact ⟨rfl, (by repeat (first | exact HB.out | (with_reducible refine Bel.drwN ?_ _) | (with_reducible refine Bel.drw ?_) | (with_reducible refine Bel.al ?_ _)))⟩
set_option maxHeartbeats 8000000 in
set_option maxRecDepth 100000 in
theorem cbeyond_ok (h c n : Nat) (L : List Rp) (n8 : n ≤ 8) (hL : ∀ p, p < n → (-1099511627776 ≤ (L.getD p (0, 0)).1 ∧ (L.getD p (0, 0)).1 ≤ 1099511627776) ∧ -1099511627776 ≤ (L.getD p (0, 0)).2 ∧ (L.getD p (0, 0)).2 ≤ 1099511627776) (w : World) (hz : Zv w h n L) :
    Calls Try.prog 76 #[.slice (some ⟨h, 0, none⟩) n c, .func (.func 77) #[] #[]] w fun e w' => e = .returned (.bool false) ∧ Bel w w' := by
  have HI : Hid (∀ W, Bel w W → Calls Try.prog 106 #[.slice (some ⟨h, 0, none⟩) n c, .func (.func 77) #[] #[]] W fun e w' => e = .returned (.int .i64 (-1)) ∧ Bel W w') := fun W hW => beyond_ok h c n L n8 hL W (hz.bel hW)
  clear hz
  go_enter Try.func76, Try.ntmps76
  go_wp2_with (go_at_call 106; refine (HI.out _ (by repeat (first | exact Bel.rf | (with_reducible refine Bel.drwN ?_ _) | (with_reducible refine Bel.drw ?_) | (with_reducible refine Bel.al ?_ _)))).mono ?_; rintro e w1 ⟨rfl, hb1⟩; have HW1 : Hid (Bel w w1) := Bel.tr (by repeat (first | exact Bel.rf | (with_reducible refine Bel.drwN ?_ _) | (with_reducible refine Bel.drw ?_) | (with_reducible refine Bel.al ?_ _))) hb1; clear hb1)
  go_ret
  exact ⟨rfl, (by repeat (first | exact HW1.out | (with_reducible refine Bel.drwN ?_ _) | (with_reducible refine Bel.drw ?_) | (with_reducible refine Bel.al ?_ _)))⟩
set_option maxHeartbeats 8000000 in
set_option maxRecDepth 100000 in
theorem turned_ok (h c n : Nat) (L : List Rp) (n8 : n ≤ 8) (hL : ∀ p, p < n → (L.getD p (0, 0)).1 ≤ (L.getD p (0, 0)).2) (w : World) (hz : Zv w h n L) :
    Calls Try.prog 106 #[.slice (some ⟨h, 0, none⟩) n c, .func (.func 78) #[] #[]] w fun e w' => e = .returned (.int .i64 (-1)) ∧ Bel w w' := by
  have HZ := Lib.hid hz
  have HL := Lib.hid hL
  have ni : (n : Int) ≤ 8 := by omega
  have HF : Hid (∀ (a b : Int) (W : World), a ≤ b → Calls Try.prog 78 #[.agg #[.int .i64 a, .int .i64 b]] W fun e w' => e = .returned (.bool false) ∧ Bel W w') := fun a b W hab => by
    have q1 : ¬ b < a := by omega
    have r1 : decide (a > b) = false := decide_eq_false q1
    go_enter Try.func78, Try.ntmps78
    go_wp2
    go_ret
    exact ⟨rfl, (by repeat (first | exact Bel.rf | (with_reducible refine Bel.drwN ?_ _) | (with_reducible refine Bel.drw ?_) | (with_reducible refine Bel.al ?_ _)))⟩
  clear hz hL
  go_enter Try.func106, Try.ntmps106
  go_wp2
  go_loopw [8] (fun s8 wr => ∃ (i : Nat) (V : World), V = wr ∧ i ≤ n ∧ s8 = .int .i64 (i : Int) ∧ Bel w wr) (fun s8 _ => n - (intOf s8).toNat)
  case atStart => exact ⟨0, _, rfl, by omega, rfl, (by repeat (first | exact Bel.rf | (with_reducible refine Bel.drwN ?_ _) | (with_reducible refine Bel.drw ?_) | (with_reducible refine Bel.al ?_ _)))⟩
  case round =>
    obtain ⟨i, wr, hwr, hi, rfl, hb⟩ := hrel
    subst hwr
    have HB := Lib.hid hb
    rcases Nat.lt_or_ge i n with hlt | hge
    · obtain ⟨c1, c2⟩ := (HZ.out.bel hb).2 i hlt
      have hab := HL.out i hlt
      obtain ⟨x, hx⟩ : ∃ x, L.getD i (0, 0) = x := ⟨_, rfl⟩
      rw [hx] at c1 c2 hab
      obtain ⟨x1, x2⟩ := x
      dsimp only at c1 c2 hab
      have HAB := Lib.hid hab
      have ii : (i : Int) < (n : Int) := by omega
      have i0 : (0 : Int) ≤ (i : Int) := by omega
      clear hb hx hab
      go_wp2_with (go_at_call 78; refine (HF.out x1 x2 _ HAB.out).mono ?_; rintro e w1 ⟨rfl, hb1⟩; have HB1 : Hid (Bel w w1) := HB.out.tr (Bel.tr (by repeat (first | exact Bel.rf | (with_reducible refine Bel.drwN ?_ _) | (with_reducible refine Bel.drw ?_) | (with_reducible refine Bel.al ?_ _))) hb1); clear hb1)
      go_roundw
      case rel => exact ⟨i + 1, _, rfl, by omega, by go_num, (by repeat (first | exact HB1.out | (with_reducible refine Bel.drwN ?_ _) | (with_reducible refine Bel.drw ?_) | (with_reducible refine Bel.al ?_ _)))⟩
      case measure => simp [intOf]; omega
    · obtain rfl : i = n := by omega
      clear hb
      go_wp2
      go_ret
      exact ⟨rfl, (by repeat (first | exact HB.out | (with_reducible refine Bel.drwN ?_ _) | (with_reducible refine Bel.drw ?_) | (with_reducible refine Bel.al ?_ _)))⟩
set_option maxHeartbeats 8000000 in
set_option maxRecDepth 100000 in
theorem cturned_ok (h c n : Nat) (L : List Rp) (n8 : n ≤ 8) (hL : ∀ p, p < n → (L.getD p (0, 0)).1 ≤ (L.getD p (0, 0)).2) (w : World) (hz : Zv w h n L) :
    Calls Try.prog 76 #[.slice (some ⟨h, 0, none⟩) n c, .func (.func 78) #[] #[]] w fun e w' => e = .returned (.bool false) ∧ Bel w w' := by
  have HI : Hid (∀ W, Bel w W → Calls Try.prog 106 #[.slice (some ⟨h, 0, none⟩) n c, .func (.func 78) #[] #[]] W fun e w' => e = .returned (.int .i64 (-1)) ∧ Bel W w') := fun W hW => turned_ok h c n L n8 hL W (hz.bel hW)
  clear hz
  go_enter Try.func76, Try.ntmps76
  go_wp2_with (go_at_call 106; refine (HI.out _ (by repeat (first | exact Bel.rf | (with_reducible refine Bel.drwN ?_ _) | (with_reducible refine Bel.drw ?_) | (with_reducible refine Bel.al ?_ _)))).mono ?_; rintro e w1 ⟨rfl, hb1⟩; have HW1 : Hid (Bel w w1) := Bel.tr (by repeat (first | exact Bel.rf | (with_reducible refine Bel.drwN ?_ _) | (with_reducible refine Bel.drw ?_) | (with_reducible refine Bel.al ?_ _))) hb1; clear hb1)
  go_ret
  exact ⟨rfl, (by repeat (first | exact HW1.out | (with_reducible refine Bel.drwN ?_ _) | (with_reducible refine Bel.drw ?_) | (with_reducible refine Bel.al ?_ _)))⟩
set_option maxHeartbeats 8000000 in
set_option maxRecDepth 100000 in
theorem offz_ok (a b : Int) (W : World) : Calls Try.prog 79 #[.agg #[.int .i64 a, .int .i64 b]] W fun e w' => e = .returned (.bool (decide (0 < a ∨ b < 0))) ∧ Bel W w' := by
  rcases Int.lt_or_le 0 a with h | h
  · have HD : Hid (decide (0 < a ∨ b < 0) = true) := decide_eq_true (.inl h)
    have r1 : decide (a > 0) = true := decide_eq_true h
    go_enter Try.func79, Try.ntmps79
    go_wp2
    go_ret
    exact ⟨congrArg (fun z => Ending.returned (.bool z)) HD.out.symm, (by repeat (first | exact Bel.rf | (with_reducible refine Bel.drwN ?_ _) | (with_reducible refine Bel.drw ?_) | (with_reducible refine Bel.al ?_ _)))⟩
  · have h' : ¬ 0 < a := by omega
    have HD : Hid (decide (0 < a ∨ b < 0) = decide (b < 0)) := by show _ = _; simp [h']
    have r1 : decide (a > 0) = false := decide_eq_false h'
    go_enter Try.func79, Try.ntmps79
    go_wp2
    go_ret
    exact ⟨by first | rfl | exact congrArg (fun z => Ending.returned (.bool z)) HD.out.symm, (by repeat (first | exact Bel.rf | (with_reducible refine Bel.drwN ?_ _) | (with_reducible refine Bel.drw ?_) | (with_reducible refine Bel.al ?_ _)))⟩
set_option maxHeartbeats 8000000 in
set_option maxRecDepth 100000 in
theorem outi_ok (h c n : Nat) (L : List Rp) (n8 : n ≤ 8) (w : World) (hz : Zv w h n L) :
    Calls Try.prog 106 #[.slice (some ⟨h, 0, none⟩) n c, .func (.func 79) #[] #[]] w fun e w' => (∃ k : Int, e = .returned (.int .i64 k) ∧ -1 ≤ k ∧ (0 ≤ k ↔ anyo L n)) ∧ Bel w w' := by
  have HZ := Lib.hid hz
  have ni : (n : Int) ≤ 8 := by omega
  clear hz
  go_enter Try.func106, Try.ntmps106
  go_wp2
  go_loopw [8] (fun s8 wr => ∃ (i : Nat) (V : World), V = wr ∧ i ≤ n ∧ s8 = .int .i64 (i : Int) ∧ (∀ j, j < i → ¬ offz L j) ∧ Bel w wr) (fun s8 _ => n - (intOf s8).toNat)
  case atStart => exact ⟨0, _, rfl, by omega, rfl, fun j hj => by omega, (by repeat (first | exact Bel.rf | (with_reducible refine Bel.drwN ?_ _) | (with_reducible refine Bel.drw ?_) | (with_reducible refine Bel.al ?_ _)))⟩
  case round =>
    obtain ⟨i, wr, hwr, hi, rfl, hp, hb⟩ := hrel
    subst hwr
    have HB := Lib.hid hb
    have HP := Lib.hid hp
    clear hp
    rcases Nat.lt_or_ge i n with hlt | hge
    · obtain ⟨c1, c2⟩ := (HZ.out.bel hb).2 i hlt
      obtain ⟨bb, hbb⟩ : ∃ z, decide (offz L i) = z := ⟨_, rfl⟩
      have HBB := Lib.hid hbb
      have HC : Hid (∀ W, Calls Try.prog 79 #[.agg #[.int .i64 (L.getD i (0, 0)).1, .int .i64 (L.getD i (0, 0)).2]] W fun e w' => e = .returned (.bool bb) ∧ Bel W w') := fun W => by
        have := offz_ok (L.getD i (0, 0)).1 (L.getD i (0, 0)).2 W
        unfold offz at hbb
        rw [hbb] at this
        exact this
      obtain ⟨x1, hx1⟩ : ∃ x, (L.getD i (0, 0)).1 = x := ⟨_, rfl⟩
      obtain ⟨x2, hx2⟩ : ∃ x, (L.getD i (0, 0)).2 = x := ⟨_, rfl⟩
      rw [hx1] at c1 HC
      rw [hx2] at c2 HC
      have ii : (i : Int) < (n : Int) := by omega
      have i0 : (0 : Int) ≤ (i : Int) := by omega
      clear hb hbb hx1 hx2
      rcases bb with _ | _
      · go_wp2_with (go_at_call 79; refine (HC.out _).mono ?_; rintro e w1 ⟨rfl, hb1⟩; have HB1 : Hid (Bel w w1) := HB.out.tr (Bel.tr (by repeat (first | exact Bel.rf | (with_reducible refine Bel.drwN ?_ _) | (with_reducible refine Bel.drw ?_) | (with_reducible refine Bel.al ?_ _))) hb1); clear hb1)
        go_roundw
        case rel => exact ⟨i + 1, _, rfl, by omega, by go_num, fun j hj => by
          rcases Nat.lt_or_ge j i with q | q
          · exact HP.out j q
          · obtain rfl : j = i := by omega
            exact of_decide_eq_false HBB.out, (by repeat (first | exact HB1.out | (with_reducible refine Bel.drwN ?_ _) | (with_reducible refine Bel.drw ?_) | (with_reducible refine Bel.al ?_ _)))⟩
        case measure => simp [intOf]; omega
      · go_wp2_with (go_at_call 79; refine (HC.out _).mono ?_; rintro e w1 ⟨rfl, hb1⟩; have HB1 : Hid (Bel w w1) := HB.out.tr (Bel.tr (by repeat (first | exact Bel.rf | (with_reducible refine Bel.drwN ?_ _) | (with_reducible refine Bel.drw ?_) | (with_reducible refine Bel.al ?_ _))) hb1); clear hb1)
        go_ret
        exact ⟨⟨_, rfl, by omega, fun _ => ⟨i, hlt, of_decide_eq_true HBB.out⟩, fun _ => by omega⟩, (by repeat (first | exact HB1.out | (with_reducible refine Bel.drwN ?_ _) | (with_reducible refine Bel.drw ?_) | (with_reducible refine Bel.al ?_ _)))⟩
    · obtain rfl : i = n := by omega
      clear hb
      go_wp2
      go_ret
      exact ⟨⟨_, rfl, by omega, fun h => absurd h (by decide), fun ⟨p, hp, ho⟩ => absurd ho (HP.out p hp)⟩, (by repeat (first | exact HB.out | (with_reducible refine Bel.drwN ?_ _) | (with_reducible refine Bel.drw ?_) | (with_reducible refine Bel.al ?_ _)))⟩
set_option maxHeartbeats 8000000 in
set_option maxRecDepth 100000 in
theorem outc_ok (h c n : Nat) (L : List Rp) (n8 : n ≤ 8) (w : World) (hz : Zv w h n L) :
    Calls Try.prog 76 #[.slice (some ⟨h, 0, none⟩) n c, .func (.func 79) #[] #[]] w fun e w' => e = .returned (.bool (decide (anyo L n))) ∧ Bel w w' := by
  have HI : Hid (∀ W, Bel w W → Calls Try.prog 106 #[.slice (some ⟨h, 0, none⟩) n c, .func (.func 79) #[] #[]] W fun e w' => (∃ k : Int, e = .returned (.int .i64 k) ∧ -1 ≤ k ∧ (0 ≤ k ↔ anyo L n)) ∧ Bel W w') := fun W hW => outi_ok h c n L n8 W (hz.bel hW)
  clear hz
  go_enter Try.func76, Try.ntmps76
  go_wp2_with fail
  go_at_call 106
  refine (HI.out _ (by repeat (first | exact Bel.rf | (with_reducible refine Bel.drwN ?_ _) | (with_reducible refine Bel.drw ?_) | (with_reducible refine Bel.al ?_ _)))).mono ?_
  rintro e w1 ⟨⟨k, rfl, k1, hk⟩, hb1⟩
  have HW1 : Hid (Bel w w1) := Bel.tr (by repeat (first | exact Bel.rf | (with_reducible refine Bel.drwN ?_ _) | (with_reducible refine Bel.drw ?_) | (with_reducible refine Bel.al ?_ _))) hb1
  have HD : Hid (decide (anyo L n) = decide (k ≥ 0)) := by show _ = _; rw [Bool.eq_iff_iff, decide_eq_true_eq, decide_eq_true_eq]; exact hk.symm
  clear hb1 hk
  go_wp2
  go_ret
  exact ⟨congrArg (fun z => Ending.returned (.bool z)) HD.out.symm, (by repeat (first | exact HW1.out | (with_reducible refine Bel.drwN ?_ _) | (with_reducible refine Bel.drw ?_) | (with_reducible refine Bel.al ?_ _)))⟩
def mnl (L : List Int) : Nat → Int
  | 0 => L.getD 0 0
  | i + 1 => min (mnl L i) (L.getD (i + 1) 0)
set_option maxHeartbeats 8000000 in
set_option maxRecDepth 100000 in
theorem mn_ok (h c n : Nat) (L : List Int) (n1 : 1 ≤ n) (n8 : n ≤ 8) (w : World) (hz : Zi w (some ⟨h, 0, none⟩) n L) :
    Calls Try.prog 108 #[.slice (some ⟨h, 0, none⟩) n c] w fun e w' => e = .returned (.int .i64 (mnl L (n - 1))) ∧ Bel w w' := by
  have HZ := Lib.hid hz
  have ni : (n : Int) ≤ 8 := by omega
  have ni1 : ¬ (n : Int) < 1 := by omega
  have ni2 : decide ((n : Int) < 1) = false := decide_eq_false ni1
  have ni3 : (0 : Int) < (n : Int) := by omega
  have ni4 : 0 < n := by omega
  have ni5 : ¬ n < 1 := by omega
  have c0 := hz.at 0 n1
  have c0' := c0
  obtain ⟨x0, hx0⟩ : ∃ x, L.getD 0 0 = x := ⟨_, rfl⟩
  rw [hx0] at c0 c0'
  clear hz
  go_enter Try.func108, Try.ntmps108
  go_wp2
  go_loopw [4, 3] (fun s4 s3 wr => ∃ (i : Nat) (V : World), V = wr ∧ i + 1 ≤ n ∧ s4 = .int .i64 ((i : Int) + 1) ∧ s3 = .int .i64 (mnl L i) ∧ Bel w wr) (fun s4 _ _ => n - (intOf s4).toNat)
  case atStart => exact ⟨0, _, rfl, by omega, by go_num, by rw [← hx0]; rfl, (by repeat (first | exact Bel.rf | (with_reducible refine Bel.drwN ?_ _) | (with_reducible refine Bel.drw ?_) | (with_reducible refine Bel.al ?_ _)))⟩
  case round =>
    obtain ⟨i, wr, hwr, hi, rfl, rfl, hb⟩ := hrel
    subst hwr
    have HB := Lib.hid hb
    rcases Nat.lt_or_ge (i + 1) n with hlt | hge
    · have c1 := (HZ.out.bel hb).at (i + 1) hlt
      obtain ⟨v, hv⟩ : ∃ v, mnl L i = v := ⟨_, rfl⟩
      obtain ⟨y, hy⟩ : ∃ y, L.getD (i + 1) 0 = y := ⟨_, rfl⟩
      have HN : Hid (mnl L (i + 1) = min v y) := by show _ = _; rw [← hv, ← hy]; rfl
      rw [hy] at c1
      rw [hv]
      have ii : (i : Int) + 1 < (n : Int) := by omega
      have i0 : (0 : Int) ≤ (i : Int) + 1 := by omega
      have ti : ((i : Int) + 1).toNat = i + 1 := by omega
      clear hb hx0 c0 c0' hv hy
      rcases Int.lt_trichotomy v y with g | g | g
      · have HM : Hid (min v y = v) := by show _ = _; omega
        go_wp2
        go_roundw
        case rel => exact ⟨i + 1, _, rfl, by omega, by go_num, congrArg (Value.int .i64) (by rw [HN.out]; omega), (by repeat (first | exact HB.out | (with_reducible refine Bel.drwN ?_ _) | (with_reducible refine Bel.drw ?_) | (with_reducible refine Bel.al ?_ _)))⟩
        case measure => simp [intOf]; omega
      · subst g
        go_wp2
        go_roundw
        case rel => exact ⟨i + 1, _, rfl, by omega, by go_num, congrArg (Value.int .i64) (by rw [HN.out]; omega), (by repeat (first | exact HB.out | (with_reducible refine Bel.drwN ?_ _) | (with_reducible refine Bel.drw ?_) | (with_reducible refine Bel.al ?_ _)))⟩
        case measure => simp [intOf]; omega
      · go_wp2
        go_roundw
        case rel => exact ⟨i + 1, _, rfl, by omega, by go_num, congrArg (Value.int .i64) (by rw [HN.out]; omega), (by repeat (first | exact HB.out | (with_reducible refine Bel.drwN ?_ _) | (with_reducible refine Bel.drw ?_) | (with_reducible refine Bel.al ?_ _)))⟩
        case measure => simp [intOf]; omega
    · have hin : n - 1 = i := by omega
      have HE : Hid (mnl L i = mnl L (n - 1)) := by show _ = _; rw [hin]
      have hi1 : ¬ (i : Int) + 1 < (n : Int) := by omega
      have hi2 : decide ((i : Int) + 1 < (n : Int)) = false := decide_eq_false hi1
      clear hb hin hx0 c0 c0'
      go_wp2
      go_ret
      exact ⟨congrArg (fun z => Ending.returned (.int .i64 z)) HE.out, (by repeat (first | exact HB.out | (with_reducible refine Bel.drwN ?_ _) | (with_reducible refine Bel.drw ?_) | (with_reducible refine Bel.al ?_ _)))⟩
def mxl (L : List Int) : Nat → Int
  | 0 => L.getD 0 0
  | i + 1 => max (mxl L i) (L.getD (i + 1) 0)
set_option maxHeartbeats 8000000 in
set_option maxRecDepth 100000 in
theorem mx_ok (h c n : Nat) (L : List Int) (n1 : 1 ≤ n) (n8 : n ≤ 8) (w : World) (hz : Zi w (some ⟨h, 0, none⟩) n L) :
    Calls Try.prog 109 #[.slice (some ⟨h, 0, none⟩) n c] w fun e w' => e = .returned (.int .i64 (mxl L (n - 1))) ∧ Bel w w' := by
  have HZ := Lib.hid hz
  have ni : (n : Int) ≤ 8 := by omega
  have ni1 : ¬ (n : Int) < 1 := by omega
  have ni2 : decide ((n : Int) < 1) = false := decide_eq_false ni1
  have ni3 : (0 : Int) < (n : Int) := by omega
  have ni4 : 0 < n := by omega
  have ni5 : ¬ n < 1 := by omega
  have c0 := hz.at 0 n1
  have c0' := c0
  obtain ⟨x0, hx0⟩ : ∃ x, L.getD 0 0 = x := ⟨_, rfl⟩
  rw [hx0] at c0 c0'
  clear hz
  go_enter Try.func109, Try.ntmps109
  go_wp2
  go_loopw [4, 3] (fun s4 s3 wr => ∃ (i : Nat) (V : World), V = wr ∧ i + 1 ≤ n ∧ s4 = .int .i64 ((i : Int) + 1) ∧ s3 = .int .i64 (mxl L i) ∧ Bel w wr) (fun s4 _ _ => n - (intOf s4).toNat)
  case atStart => exact ⟨0, _, rfl, by omega, by go_num, by rw [← hx0]; rfl, (by repeat (first | exact Bel.rf | (with_reducible refine Bel.drwN ?_ _) | (with_reducible refine Bel.drw ?_) | (with_reducible refine Bel.al ?_ _)))⟩
  case round =>
    obtain ⟨i, wr, hwr, hi, rfl, rfl, hb⟩ := hrel
    subst hwr
    have HB := Lib.hid hb
    rcases Nat.lt_or_ge (i + 1) n with hlt | hge
    · have c1 := (HZ.out.bel hb).at (i + 1) hlt
      obtain ⟨v, hv⟩ : ∃ v, mxl L i = v := ⟨_, rfl⟩
      obtain ⟨y, hy⟩ : ∃ y, L.getD (i + 1) 0 = y := ⟨_, rfl⟩
      have HN : Hid (mxl L (i + 1) = max v y) := by show _ = _; rw [← hv, ← hy]; rfl
      rw [hy] at c1
      rw [hv]
      have ii : (i : Int) + 1 < (n : Int) := by omega
      have i0 : (0 : Int) ≤ (i : Int) + 1 := by omega
      have ti : ((i : Int) + 1).toNat = i + 1 := by omega
      clear hb hx0 c0 c0' hv hy
      rcases Int.lt_trichotomy v y with g | g | g
      · have HM : Hid (max v y = y) := by show _ = _; omega
        go_wp2
        go_roundw
        case rel => exact ⟨i + 1, _, rfl, by omega, by go_num, congrArg (Value.int .i64) (by rw [HN.out]; omega), (by repeat (first | exact HB.out | (with_reducible refine Bel.drwN ?_ _) | (with_reducible refine Bel.drw ?_) | (with_reducible refine Bel.al ?_ _)))⟩
        case measure => simp [intOf]; omega
      · subst g
        go_wp2
        go_roundw
        case rel => exact ⟨i + 1, _, rfl, by omega, by go_num, congrArg (Value.int .i64) (by rw [HN.out]; omega), (by repeat (first | exact HB.out | (with_reducible refine Bel.drwN ?_ _) | (with_reducible refine Bel.drw ?_) | (with_reducible refine Bel.al ?_ _)))⟩
        case measure => simp [intOf]; omega
      · go_wp2
        go_roundw
        case rel => exact ⟨i + 1, _, rfl, by omega, by go_num, congrArg (Value.int .i64) (by rw [HN.out]; omega), (by repeat (first | exact HB.out | (with_reducible refine Bel.drwN ?_ _) | (with_reducible refine Bel.drw ?_) | (with_reducible refine Bel.al ?_ _)))⟩
        case measure => simp [intOf]; omega
    · have hin : n - 1 = i := by omega
      have HE : Hid (mxl L i = mxl L (n - 1)) := by show _ = _; rw [hin]
      have hi1 : ¬ (i : Int) + 1 < (n : Int) := by omega
      have hi2 : decide ((i : Int) + 1 < (n : Int)) = false := decide_eq_false hi1
      clear hb hin hx0 c0 c0'
      go_wp2
      go_ret
      exact ⟨congrArg (fun z => Ending.returned (.int .i64 z)) HE.out, (by repeat (first | exact HB.out | (with_reducible refine Bel.drwN ?_ _) | (with_reducible refine Bel.drw ?_) | (with_reducible refine Bel.al ?_ _)))⟩
end Go.Proofs.Ytmgdoglnckkobaa.Sk
namespace Go.Proofs.Ytmgdoglnckkobaa.Sk
open Go.ChangeShapes Go.WideShapes Go.RowKit Wo Sr Wi Nr Pc Eu Ra
open Wd (Rp rs rs_at rs_cons)
set_option linter.unusedVariables false
set_option linter.unusedSimpArgs false
theorem results_x {fn : Func} {p : Tmp} (h : fn.results = #[.cell p 105]) (tmps : Array Value) (w : World) (g : Nat) (a b c : Value)
    (hp : tmps.getD p undef = .pointer (some ⟨g, 0, none⟩)) (hg : Bk w g 105 #[a, b, c]) : (results fn tmps).run Try.prog w = .ok (.agg #[a, b, c]) w := by
  have hp' : tmps[p]?.getD undef = .pointer (some ⟨g, 0, none⟩) := by simpa using hp
  have hl := run_loadVar_row (P := Try.prog) w g 105 105 #[a, b, c] (0, 0) _ hg Try.underlying105 rfl (by kernel_rfl)
  simp [results, h, hp', asAddr, hl]
theorem results_rt {fn : Func} {p q : Tmp} (h : fn.results = #[.cell p 37, .tmp q]) (tmps : Array Value) (w : World) (g : Nat) (a b c : Value)
    (hp : tmps.getD p undef = .pointer (some ⟨g, 0, none⟩)) (hq : tmps.getD q undef = c) (hg : Bk w g 37 #[a, b]) : (results fn tmps).run Try.prog w = .ok (.tuple #[.agg #[a, b], c]) w := by
  have hp' : tmps[p]?.getD undef = .pointer (some ⟨g, 0, none⟩) := by simpa using hp
  have hq' : tmps[q]?.getD undef = c := by simpa using hq
  have hl := run_loadVar_row (P := Try.prog) w g 37 37 #[a, b] (0, 0) _ hg Try.underlying37 rfl (by kernel_rfl)
  simp [results, h, hp', hq', asAddr, hl]
/-- what the lengths of pieces divide -/
def cmn (m n : Nat) : Int := if mnl (lns m n) (n - 1) < mxl (lns m n) (n - 1) then mnl (lns m n) (n - 1) * mxl (lns m n) (n - 1) else mnl (lns m n) (n - 1)
theorem mm_in {L : List Int} {B : Int} {n : Nat} (h : ∀ i, i < n → 1 ≤ L.getD i 0 ∧ L.getD i 0 ≤ B) : ∀ i, i < n → (1 ≤ mnl L i ∧ mnl L i ≤ B) ∧ (1 ≤ mxl L i ∧ mxl L i ≤ B)
  | 0, hi => ⟨h 0 hi, h 0 hi⟩
  | i + 1, hi => by
    have a := mm_in h i (by omega)
    have b := h (i + 1) hi
    unfold mnl mxl
    omega
theorem lns_in {m n : Nat} (m32 : m ≤ 32) (n1 : 1 ≤ n) (nm : n ≤ m) : ∀ i, i < n → 1 ≤ (lns m n).getD i 0 ∧ (lns m n).getD i 0 ≤ 33 ∧ (2 ≤ n → (lns m n).getD i 0 ≤ 17) := fun i hi => by
  rw [lns_at m n i hi]
  have h1 := ln_pos m n i n1 nm
  have h2 := (st_step m n i n1).2
  have h3 : m / n ≤ m := Nat.div_le_self _ _
  have h4 : 2 ≤ n → m / n ≤ 16 := fun h2 => by
    have : m / n ≤ m / 2 := Nat.div_le_div_left h2 (by decide)
    omega
  unfold ln at h1 ⊢
  refine ⟨by omega, by omega, fun h => by have := h4 h; omega⟩
theorem cmn_in {m n : Nat} (m32 : m ≤ 32) (n1 : 1 ≤ n) (nm : n ≤ m) : (1 ≤ mnl (lns m n) (n - 1) ∧ mnl (lns m n) (n - 1) ≤ 33) ∧ (1 ≤ mxl (lns m n) (n - 1) ∧ mxl (lns m n) (n - 1) ≤ 33) ∧ 1 ≤ cmn m n ∧ cmn m n ≤ 289 ∧ (mnl (lns m n) (n - 1) < mxl (lns m n) (n - 1) → mnl (lns m n) (n - 1) * mxl (lns m n) (n - 1) ≤ 289) := by
  have hl := lns_in m32 n1 nm
  have a := mm_in (B := 33) (n := n) (fun i hi => ⟨(hl i hi).1, (hl i hi).2.1⟩) (n - 1) (by omega)
  have key : mnl (lns m n) (n - 1) < mxl (lns m n) (n - 1) → 1 ≤ mnl (lns m n) (n - 1) * mxl (lns m n) (n - 1) ∧ mnl (lns m n) (n - 1) * mxl (lns m n) (n - 1) ≤ 289 := fun h => by
    rcases Nat.lt_or_ge 1 n with q | q
    · have b := mm_in (B := 17) (n := n) (fun i hi => ⟨(hl i hi).1, (hl i hi).2.2 q⟩) (n - 1) (by omega)
      have c1 := Int.mul_le_mul b.1.2 b.2.2 (by omega) (by decide)
      have c2 := Int.mul_le_mul b.1.1 b.2.1 (by decide) (by omega)
      omega
    · obtain rfl : n = 1 := by omega
      exact absurd h (by show ¬ (lns m 1).getD 0 0 < (lns m 1).getD 0 0; omega)
  refine ⟨a.1, a.2, ?_, ?_, fun h => (key h).2⟩
  · unfold cmn; split
    · rename_i h; exact (key h).1
    · exact a.1.1
  · unfold cmn; split
    · rename_i h; exact (key h).2
    · omega
set_option maxHeartbeats 8000000 in
set_option maxRecDepth 100000 in
theorem none_ok (a c m n : Nat) (E : Int) (m2 : 2 ≤ m) (m32 : m ≤ 32) (n1 : 1 ≤ n) (n8 : n ≤ 8) (nm : n ≤ m) (w : World) :
    Calls Try.prog 80 #[skv a c m n E] w fun e w' => ∃ g, e = .returned (.agg #[.int .i64 0, .int .i64 (2097152 * cmn m n), .slice (some ⟨g, 0, none⟩) n n]) ∧ w.heap.size ≤ g ∧ Bk w' g 3 (zs (lns m n)).toArray ∧ Bel w w' := by
  have LX : Hid (∀ W, Calls Try.prog 107 #[.agg #[.int .i64 (m : Int), .slice (some ⟨a, 0, none⟩) n c, .int .i64 E]] W fun e w' => ∃ g, e = .returned (.slice (some ⟨g, 0, none⟩) n n) ∧ W.heap.size ≤ g ∧ Bk w' g 3 (zs (lns m n)).toArray ∧ Bel W w') := fun W => lengths_ok a c m n E m2 m32 n1 n8 nm W
  have ci := cmn_in m32 n1 nm
  have HLL : Hid ((lns m n).length = n) := lns_len m n
  have HCM : Hid (cmn m n = if mnl (lns m n) (n - 1) < mxl (lns m n) (n - 1) then mnl (lns m n) (n - 1) * mxl (lns m n) (n - 1) else mnl (lns m n) (n - 1)) := rfl
  have MI : Hid (∀ g W, Zi W (some ⟨g, 0, none⟩) n (lns m n) → Calls Try.prog 108 #[.slice (some ⟨g, 0, none⟩) n n] W fun e w' => e = .returned (.int .i64 (mnl (lns m n) (n - 1))) ∧ Bel W w') := fun g W h => mn_ok g n n (lns m n) n1 n8 W h
  have MA : Hid (∀ g W, Zi W (some ⟨g, 0, none⟩) n (lns m n) → Calls Try.prog 109 #[.slice (some ⟨g, 0, none⟩) n n] W fun e w' => e = .returned (.int .i64 (mxl (lns m n) (n - 1))) ∧ Bel W w') := fun g W h => mx_ok g n n (lns m n) n1 n8 W h
  obtain ⟨u, hu⟩ : ∃ u, mnl (lns m n) (n - 1) = u := ⟨_, rfl⟩
  obtain ⟨v, hv⟩ : ∃ u, mxl (lns m n) (n - 1) = u := ⟨_, rfl⟩
  obtain ⟨Q, hQ⟩ : ∃ u, cmn m n = u := ⟨_, rfl⟩
  rw [hu] at ci HCM MI
  rw [hv] at ci HCM MA
  rw [hQ] at ci HCM ⊢
  obtain ⟨⟨u1, u2⟩, ⟨v1, v2⟩, Q1, Q2, hprod⟩ := ci
  have HR0 : Hid (Bk ((w.alloc (.cells #[.int .i64 (m : Int), .slice (some ⟨a, 0, none⟩) n c, .int .i64 E] 67)).alloc (.cells #[.int .i64 0, .int .i64 0, .slice none 0 0] 105)) (w.heap.size + 1) 105 #[.int .i64 0, .int .i64 0, .slice none 0 0]) := Bk.nq _ _ _ (by simp)
  have HW0 : Hid (Bel w ((w.alloc (.cells #[.int .i64 (m : Int), .slice (some ⟨a, 0, none⟩) n c, .int .i64 E] 67)).alloc (.cells #[.int .i64 0, .int .i64 0, .slice none 0 0] 105))) := (Bel.rf.al _).al _
  have HPR := Lib.hid hprod
  clear hu hv hQ hprod
  unfold skv
  go_enter Try.func80, Try.ntmps80
  go_wp2_with fail
  go_at_call 107
  refine (LX.out _).mono ?_
  rintro e w1 ⟨g, rfl, hg0, hgk, hb⟩
  have hb1 : Bel ((w.alloc (.cells #[.int .i64 (m : Int), .slice (some ⟨a, 0, none⟩) n c, .int .i64 E] 67)).alloc (.cells #[.int .i64 0, .int .i64 0, .slice none 0 0] 105)) w1 := Bel.tr (by repeat (first | exact Bel.rf | (with_reducible refine Bel.drwN ?_ _) | (with_reducible refine Bel.drw ?_) | (with_reducible refine Bel.al ?_ _))) hb
  have HW1 : Hid (Bel w w1) := HW0.out.tr hb1
  have HR1 := Lib.hid (HR0.out.bel hb1)
  have HGK := Lib.hid hgk
  have HG0 : Hid (w.heap.size ≤ g) := Nat.le_trans HW0.out.size (Nat.le_trans (by (try simp)) hg0)
  clear hb hb1 hgk hg0
  go_wp2_with fail
  go_at_call 108
  refine (MI.out g _ ((zi_bk HGK.out n HLL.out).bel (by repeat (first | exact Bel.rf | (with_reducible refine Bel.drwN ?_ _) | (with_reducible refine Bel.drw ?_) | (with_reducible refine Bel.al ?_ _))))).mono ?_
  rintro e w2 ⟨rfl, hb⟩
  have H12 : Hid (Bel w1 w2) := Bel.tr (by repeat (first | exact Bel.rf | (with_reducible refine Bel.drwN ?_ _) | (with_reducible refine Bel.drw ?_) | (with_reducible refine Bel.al ?_ _))) hb
  clear hb
  go_wp2_with fail
  go_at_call 109
  refine (MA.out g _ ((zi_bk HGK.out n HLL.out).bel (H12.out.tr (by repeat (first | exact Bel.rf | (with_reducible refine Bel.drwN ?_ _) | (with_reducible refine Bel.drw ?_) | (with_reducible refine Bel.al ?_ _)))))).mono ?_
  rintro e w3 ⟨rfl, hb⟩
  have H13 : Hid (Bel w1 w3) := H12.out.tr (Bel.tr (by repeat (first | exact Bel.rf | (with_reducible refine Bel.drwN ?_ _) | (with_reducible refine Bel.drw ?_) | (with_reducible refine Bel.al ?_ _))) hb)
  have HR3 := Lib.hid (HR1.out.bel H13.out)
  have y0 := HR3.out.cell 0
  have y1 := HR3.out.cell 1
  have y2 := HR3.out.cell 2
  have z0 := HR3.out.fr 0
  have z1 := HR3.out.fr 1
  have z2 := HR3.out.fr 2
  simp only [List.getElem?_toArray, List.getElem?_cons_zero, List.getElem?_cons_succ] at y0 y1 y2
  have lt3 : w.heap.size + 1 < w3.heap.size := HR3.out.lt
  have HFF : Hid (∀ x : Int, Bk (((w3.setCell ⟨w.heap.size + 1, 0, none⟩ (.int .i64 0)).setCell ⟨w.heap.size + 1, 1, none⟩ (.int .i64 x)).setCell ⟨w.heap.size + 1, 2, none⟩ (.slice (some ⟨g, 0, none⟩) n n)) (w.heap.size + 1) 105 #[.int .i64 0, .int .i64 x, .slice (some ⟨g, 0, none⟩) n n] ∧ Bel w (((w3.setCell ⟨w.heap.size + 1, 0, none⟩ (.int .i64 0)).setCell ⟨w.heap.size + 1, 1, none⟩ (.int .i64 x)).setCell ⟨w.heap.size + 1, 2, none⟩ (.slice (some ⟨g, 0, none⟩) n n))) := fun x => ⟨((HR3.out.st 0 _).st 1 _).st 2 _, Bel.st2 (by show w.heap.size ≤ w.heap.size + 1; omega) (Bel.st2 (by show w.heap.size ≤ w.heap.size + 1; omega) (Bel.st2 (by show w.heap.size ≤ w.heap.size + 1; omega) (HW1.out.tr H13.out) _) _) _⟩
  have HNG : Hid (g ≠ w.heap.size + 1) := fun e => by
    have h1 := HR1.out
    have h2 := HGK.out
    rw [e] at h2
    have h3 : w1.heap[w.heap.size + 1]? = some _ := h1
    have h4 : w1.heap[w.heap.size + 1]? = some _ := h2
    rw [h3] at h4
    injection h4 with h4
    injection h4 with _ h5
    exact absurd h5 (by decide)
  have HGF : Hid (∀ x : Int, Bk (((w3.setCell ⟨w.heap.size + 1, 0, none⟩ (.int .i64 0)).setCell ⟨w.heap.size + 1, 1, none⟩ (.int .i64 x)).setCell ⟨w.heap.size + 1, 2, none⟩ (.slice (some ⟨g, 0, none⟩) n n)) g 3 (zs (lns m n)).toArray) := fun x => (((HGK.out.bel H13.out).far HNG.out _).far HNG.out _).far HNG.out _
  clear hb
  rcases Int.lt_or_le u v with h | h
  · obtain ⟨P, hP⟩ : ∃ P, u * v = P := ⟨_, rfl⟩
    have hq : P = Q := by rw [← hP, HCM.out, if_pos h]
    have p2 := HPR.out h
    rw [hP] at p2
    subst hq
    have dg : decide (v > u) = true := decide_eq_true h
    clear HPR
    go_wp2
    exact bodyPost_ret (v := .agg #[.int .i64 0, .int .i64 (2097152 * P), .slice (some ⟨g, 0, none⟩) n n]) (results_x Try.results80 _ _ (w.heap.size + 1) _ _ _ rfl (HFF.out _).1) rfl ⟨g, rfl, HG0.out, HGF.out _, (HFF.out _).2⟩
  · have hq : Q = u := by rw [HCM.out, if_neg (by omega)]
    subst hq
    have dn : ¬ Q < v := by omega
    have dg : decide (v > Q) = false := decide_eq_false dn
    clear HPR
    go_wp2
    exact bodyPost_ret (v := .agg #[.int .i64 0, .int .i64 (2097152 * Q), .slice (some ⟨g, 0, none⟩) n n]) (results_x Try.results80 _ _ (w.heap.size + 1) _ _ _ rfl (HFF.out _).1) rfl ⟨g, rfl, HG0.out, HGF.out _, (HFF.out _).2⟩
def opA : Oper := ⟨none, .store 3 (.tmp 34) (.tmp 31), 0, "sketch.go:125", #[⟨26, .data⟩, ⟨23, .data⟩, ⟨0, .phase⟩, ⟨1, .phase⟩, ⟨2, .phase⟩, ⟨3, .phase⟩, ⟨4, .phase⟩, ⟨5, .phase⟩, ⟨6, .phase⟩, ⟨7, .phase⟩, ⟨8, .phase⟩, ⟨9, .phase⟩, ⟨10, .phase⟩, ⟨11, .phase⟩, ⟨12, .phase⟩, ⟨13, .phase⟩, ⟨14, .phase⟩, ⟨15, .phase⟩, ⟨16, .phase⟩, ⟨17, .phase⟩, ⟨18, .phase⟩, ⟨19, .phase⟩, ⟨20, .phase⟩, ⟨21, .phase⟩, ⟨22, .phase⟩, ⟨23, .phase⟩], none⟩
set_option maxHeartbeats 8000000 in
set_option maxRecDepth 100000 in
theorem add_ok (z g n p : Nat) (num Q d l : Int) (Ls : List Int) (n8 : n ≤ 8) (hp : p < n) (hl : Ls.getD p 0 = l) (l1 : 1 ≤ l) (l2 : l ≤ 33) (Q1 : 1 ≤ Q) (Q2 : Q ≤ 289) (d0 : 0 ≤ d) (d1 : d ≤ 17596481011712) (num0 : 0 ≤ num) (num1 : num ≤ 1152921504606846976) (w : World) (hk : Bk w z 105 #[.int .i64 num, .int .i64 (2097152 * Q), .slice (some ⟨g, 0, none⟩) n n]) (hz : Zi w (some ⟨g, 0, none⟩) n Ls) :
    Calls Try.prog 82 #[.pointer (some ⟨z, 0, none⟩), .int .i64 (p : Int), .int .i64 d] w fun e w' => e = .returned (.tuple #[]) ∧ Bk w' z 105 #[.int .i64 (num + min d 16384 * min d 16384 * (2097152 * Q / (2097152 * l))), .int .i64 (2097152 * Q), .slice (some ⟨g, 0, none⟩) n n] ∧ Ch z w w' := by
  have HK := Lib.hid hk
  have c3 := hz.at p hp
  rw [hl] at c3
  obtain ⟨x, hx⟩ : ∃ x, min d 16384 = x := ⟨_, rfl⟩
  have x0 : 0 ≤ x := by omega
  have x1 : x ≤ 16384 := by omega
  obtain ⟨D, hD⟩ : ∃ x, 2097152 * Q = x := ⟨_, rfl⟩
  obtain ⟨G, hG⟩ : ∃ x, 2097152 * l = x := ⟨_, rfl⟩
  obtain ⟨K', hK'⟩ : ∃ x, D / G = x := ⟨_, rfl⟩
  have hk0 : 0 ≤ K' ∧ K' ≤ 289 := by
    rw [← hK']
    refine ⟨Int.ediv_nonneg (by omega) (by omega), ?_⟩
    have : D / G < 290 := by
      rw [Int.ediv_lt_iff_lt_mul (by omega)]
      omega
    omega
  obtain ⟨Y, hY⟩ : ∃ Y, x * x = Y := ⟨_, rfl⟩
  have hy0 : 0 ≤ Y ∧ Y ≤ 268435456 := by
    rw [← hY]
    exact ⟨Int.mul_nonneg x0 x0, Int.mul_le_mul x1 x1 x0 (by decide)⟩
  obtain ⟨Z, hZ⟩ : ∃ Z, Y * K' = Z := ⟨_, rfl⟩
  have hz0 : 0 ≤ Z ∧ Z ≤ 77577846784 := by
    rw [← hZ]
    exact ⟨Int.mul_nonneg hy0.1 hk0.1, Int.mul_le_mul hy0.2 hk0.2 hk0.1 (by decide)⟩
  have w1 : IntKind.i64.wrap (x * x) = Y := by rw [hY]; exact IntWalk.i64_in _ (by omega)
  have w2 : IntKind.i64.wrap (2097152 * l) = G := by rw [hG]; exact IntWalk.i64_in _ (by omega)
  have w3 : IntKind.i64.wrap (D.tdiv G) = K' := by rw [Int.tdiv_eq_ediv_of_nonneg (by omega), hK']; exact IntWalk.i64_in _ (by omega)
  have w4 : IntKind.i64.wrap (Y * K') = Z := by rw [hZ]; exact IntWalk.i64_in _ (by omega)
  have w5 : IntKind.i64.wrap (num + Z) = num + Z := IntWalk.i64_in _ (by omega)
  have g0 : ¬ G = 0 := by omega
  have pi : (p : Int) < (n : Int) := by omega
  have pi0 : (0 : Int) ≤ (p : Int) := by omega
  rw [hx, hD, hG, hK', hY, hZ]
  rw [hD] at hk HK
  have HK2 := Lib.hid hk
  have HWS := Lib.hid (And.intro w1 (And.intro w2 (And.intro w3 (And.intro w4 (And.intro w5 g0)))))
  have HX := Lib.hid hx
  have HYY := Lib.hid hY
  have w6 : IntKind.i64.wrap 268435456 = 268435456 := by decide
  have KS : Hid (∀ W, Bel w W → (fun W : World => W.cell? ⟨z, 0, none⟩ = some (.int .i64 num) ∧ W.cell? ⟨z, 1, none⟩ = some (.int .i64 D) ∧ W.cell? ⟨z, 2, none⟩ = some (.slice (some ⟨g, 0, none⟩) n n) ∧ W.cell? ⟨g, p, none⟩ = some (.int .i64 l)) W) := fun W hW => by
    have h := HK2.out.bel hW
    have u0 := h.cell 0
    have u1 := h.cell 1
    have u2 := h.cell 2
    simp only [List.getElem?_toArray, List.getElem?_cons_zero, List.getElem?_cons_succ] at u0 u1 u2
    exact ⟨u0, u1, u2, hW.kp c3⟩
  have y0 := hk.cell 0
  have z0 := hk.fr 0
  simp only [List.getElem?_toArray, List.getElem?_cons_zero, List.getElem?_cons_succ] at y0
  clear hz hl hD hG hK' hY hZ hk w1 w2 w3 w4 w5 g0 hk0 hy0 hz0 hx x0 x1 c3 num0 num1 Q1 Q2 l1 l2
  rcases Int.lt_trichotomy d 16384 with hd | hd | hd
  · obtain rfl : x = d := by have := HX.out; omega
    go_enter Try.func82, Try.ntmps82
    go_upto_region 1 with fail
    obtain ⟨w1, w2, w3, w4, w5, g0⟩ := HWS.out
    refine wp_region_noPanic ?_
    refine Rb.wp_region_till (S := fun W : World => W.cell? ⟨z, 0, none⟩ = some (.int .i64 num) ∧ W.cell? ⟨z, 1, none⟩ = some (.int .i64 D) ∧ W.cell? ⟨z, 2, none⟩ = some (.slice (some ⟨g, 0, none⟩) n n) ∧ W.cell? ⟨g, p, none⟩ = some (.int .i64 l)) 27 (by kernel_rfl) ?_ (fun hH0 => ?_)
    · (try dsimp only); exact KS.out _ (by repeat (first | exact Bel.rf | (with_reducible refine Bel.drwN ?_ _) | (with_reducible refine Bel.drw ?_) | (with_reducible refine Bel.al ?_ _)))
    refine Rb.till_take (i := 0) (oi := ⟨some 8, .move (.tmp 0), 128, "sketch.go:125", #[], none⟩) (v := ?_) rfl (by kernel_rfl) (by kernel_rfl) (by kernel_rfl) (fun _ _ _ h => h) (by decide) opA rfl (by kernel_rfl) (by kernel_rfl) (Or.inl ⟨by first | kernel_rfl | rfl, ?_⟩) (by assumption) ?_
    rotate_left
    · (intro w hSw; (try dsimp only at hSw); obtain ⟨d1, d2, d3, d4⟩ := hSw; go_simp; try with_reducible rfl)
    try simp only [Act.put, List.setIfInBounds_toArray, List.set_cons_zero, List.set_cons_succ]
    refine Rb.till_take (i := 1) (oi := ⟨some 9, .nilCheck (.tmp 8), 0, "sketch.go:125", #[⟨0, .data⟩], none⟩) (v := ?_) rfl (by kernel_rfl) (by kernel_rfl) (by kernel_rfl) (fun _ _ _ h => h) (by decide) opA rfl (by kernel_rfl) (by kernel_rfl) (Or.inl ⟨by first | kernel_rfl | rfl, ?_⟩) (by assumption) ?_
    rotate_left
    · (intro w hSw; (try dsimp only at hSw); obtain ⟨d1, d2, d3, d4⟩ := hSw; go_simp; try with_reducible rfl)
    try simp only [Act.put, List.setIfInBounds_toArray, List.set_cons_zero, List.set_cons_succ]
    refine Rb.till_take (i := 2) (oi := ⟨some 10, .fieldAddr 105 (.tmp 9) 0, 0, "sketch.go:125", #[⟨1, .data⟩], none⟩) (v := ?_) rfl (by kernel_rfl) (by kernel_rfl) (by kernel_rfl) (fun _ _ _ h => h) (by decide) opA rfl (by kernel_rfl) (by kernel_rfl) (Or.inl ⟨by first | kernel_rfl | rfl, ?_⟩) (by assumption) ?_
    rotate_left
    · (intro w hSw; (try dsimp only at hSw); obtain ⟨d1, d2, d3, d4⟩ := hSw; go_simp; try with_reducible rfl)
    try simp only [Act.put, List.setIfInBounds_toArray, List.set_cons_zero, List.set_cons_succ]
    refine Rb.till_take (i := 3) (oi := ⟨some 11, .fieldAddr 103 (.tmp 10) 0, 0, "sketch.go:125", #[⟨2, .data⟩], none⟩) (v := ?_) rfl (by kernel_rfl) (by kernel_rfl) (by kernel_rfl) (fun _ _ _ h => h) (by decide) opA rfl (by kernel_rfl) (by kernel_rfl) (Or.inl ⟨by first | kernel_rfl | rfl, ?_⟩) (by assumption) ?_
    rotate_left
    · (intro w hSw; (try dsimp only at hSw); obtain ⟨d1, d2, d3, d4⟩ := hSw; go_simp; try with_reducible rfl)
    try simp only [Act.put, List.setIfInBounds_toArray, List.set_cons_zero, List.set_cons_succ]
    refine Rb.till_take (i := 4) (oi := ⟨some 12, .load 3 (.tmp 11), 3, "sketch.go:125", #[⟨3, .data⟩], none⟩) (v := ?_) rfl (by kernel_rfl) (by kernel_rfl) (by kernel_rfl) (fun _ _ _ h => h) (by decide) opA rfl (by kernel_rfl) (by kernel_rfl) (Or.inl ⟨by first | kernel_rfl | rfl, ?_⟩) (by assumption) ?_
    rotate_left
    · (intro w hSw; (try dsimp only at hSw); obtain ⟨d1, d2, d3, d4⟩ := hSw; go_simp; try with_reducible rfl)
    try simp only [Act.put, List.setIfInBounds_toArray, List.set_cons_zero, List.set_cons_succ]
    refine Rb.till_take (i := 5) (oi := ⟨some 13, .move (.tmp 2), 3, "sketch.go:125", #[], none⟩) (v := ?_) rfl (by kernel_rfl) (by kernel_rfl) (by kernel_rfl) (fun _ _ _ h => h) (by decide) opA rfl (by kernel_rfl) (by kernel_rfl) (Or.inl ⟨by first | kernel_rfl | rfl, ?_⟩) (by assumption) ?_
    rotate_left
    · (intro w hSw; (try dsimp only at hSw); obtain ⟨d1, d2, d3, d4⟩ := hSw; go_simp; try with_reducible rfl)
    try simp only [Act.put, List.setIfInBounds_toArray, List.set_cons_zero, List.set_cons_succ]
    refine Rb.till_take (i := 6) (oi := ⟨some 14, .move (.tmp 2), 3, "sketch.go:125", #[], none⟩) (v := ?_) rfl (by kernel_rfl) (by kernel_rfl) (by kernel_rfl) (fun _ _ _ h => h) (by decide) opA rfl (by kernel_rfl) (by kernel_rfl) (Or.inl ⟨by first | kernel_rfl | rfl, ?_⟩) (by assumption) ?_
    rotate_left
    · (intro w hSw; (try dsimp only at hSw); obtain ⟨d1, d2, d3, d4⟩ := hSw; go_simp; try with_reducible rfl)
    try simp only [Act.put, List.setIfInBounds_toArray, List.set_cons_zero, List.set_cons_succ]
    refine Rb.till_take (i := 7) (oi := ⟨some 15, .binOp BinOp.mul 3 (.tmp 13) (.tmp 14) 3, 3, "sketch.go:125", #[⟨5, .data⟩, ⟨6, .data⟩], none⟩) (v := ?_) rfl (by kernel_rfl) (by kernel_rfl) (by kernel_rfl) (fun _ _ _ h => h) (by decide) opA rfl (by kernel_rfl) (by kernel_rfl) (Or.inl ⟨by first | kernel_rfl | rfl, ?_⟩) (by assumption) ?_
    rotate_left
    · (intro w hSw; (try dsimp only at hSw); obtain ⟨d1, d2, d3, d4⟩ := hSw; go_simp; try with_reducible rfl)
    try simp only [Act.put, List.setIfInBounds_toArray, List.set_cons_zero, List.set_cons_succ]
    refine Rb.till_take (i := 8) (oi := ⟨some 16, .move (.tmp 0), 128, "sketch.go:125", #[], none⟩) (v := ?_) rfl (by kernel_rfl) (by kernel_rfl) (by kernel_rfl) (fun _ _ _ h => h) (by decide) opA rfl (by kernel_rfl) (by kernel_rfl) (Or.inl ⟨by first | kernel_rfl | rfl, ?_⟩) (by assumption) ?_
    rotate_left
    · (intro w hSw; (try dsimp only at hSw); obtain ⟨d1, d2, d3, d4⟩ := hSw; go_simp; try with_reducible rfl)
    try simp only [Act.put, List.setIfInBounds_toArray, List.set_cons_zero, List.set_cons_succ]
    refine Rb.till_take (i := 9) (oi := ⟨some 17, .nilCheck (.tmp 16), 0, "sketch.go:125", #[⟨8, .data⟩], none⟩) (v := ?_) rfl (by kernel_rfl) (by kernel_rfl) (by kernel_rfl) (fun _ _ _ h => h) (by decide) opA rfl (by kernel_rfl) (by kernel_rfl) (Or.inl ⟨by first | kernel_rfl | rfl, ?_⟩) (by assumption) ?_
    rotate_left
    · (intro w hSw; (try dsimp only at hSw); obtain ⟨d1, d2, d3, d4⟩ := hSw; go_simp; try with_reducible rfl)
    try simp only [Act.put, List.setIfInBounds_toArray, List.set_cons_zero, List.set_cons_succ]
    refine Rb.till_take (i := 10) (oi := ⟨some 18, .fieldAddr 105 (.tmp 17) 0, 0, "sketch.go:125", #[⟨9, .data⟩], none⟩) (v := ?_) rfl (by kernel_rfl) (by kernel_rfl) (by kernel_rfl) (fun _ _ _ h => h) (by decide) opA rfl (by kernel_rfl) (by kernel_rfl) (Or.inl ⟨by first | kernel_rfl | rfl, ?_⟩) (by assumption) ?_
    rotate_left
    · (intro w hSw; (try dsimp only at hSw); obtain ⟨d1, d2, d3, d4⟩ := hSw; go_simp; try with_reducible rfl)
    try simp only [Act.put, List.setIfInBounds_toArray, List.set_cons_zero, List.set_cons_succ]
    refine Rb.till_take (i := 11) (oi := ⟨some 19, .fieldAddr 103 (.tmp 18) 1, 0, "sketch.go:125", #[⟨10, .data⟩], none⟩) (v := ?_) rfl (by kernel_rfl) (by kernel_rfl) (by kernel_rfl) (fun _ _ _ h => h) (by decide) opA rfl (by kernel_rfl) (by kernel_rfl) (Or.inl ⟨by first | kernel_rfl | rfl, ?_⟩) (by assumption) ?_
    rotate_left
    · (intro w hSw; (try dsimp only at hSw); obtain ⟨d1, d2, d3, d4⟩ := hSw; go_simp; try with_reducible rfl)
    try simp only [Act.put, List.setIfInBounds_toArray, List.set_cons_zero, List.set_cons_succ]
    refine Rb.till_take (i := 12) (oi := ⟨some 20, .load 3 (.tmp 19), 3, "sketch.go:125", #[⟨11, .data⟩], none⟩) (v := ?_) rfl (by kernel_rfl) (by kernel_rfl) (by kernel_rfl) (fun _ _ _ h => h) (by decide) opA rfl (by kernel_rfl) (by kernel_rfl) (Or.inl ⟨by first | kernel_rfl | rfl, ?_⟩) (by assumption) ?_
    rotate_left
    · (intro w hSw; (try dsimp only at hSw); obtain ⟨d1, d2, d3, d4⟩ := hSw; go_simp; try with_reducible rfl)
    try simp only [Act.put, List.setIfInBounds_toArray, List.set_cons_zero, List.set_cons_succ]
    refine Rb.till_take (i := 13) (oi := ⟨some 21, .move (.tmp 0), 128, "sketch.go:125", #[], none⟩) (v := ?_) rfl (by kernel_rfl) (by kernel_rfl) (by kernel_rfl) (fun _ _ _ h => h) (by decide) opA rfl (by kernel_rfl) (by kernel_rfl) (Or.inl ⟨by first | kernel_rfl | rfl, ?_⟩) (by assumption) ?_
    rotate_left
    · (intro w hSw; (try dsimp only at hSw); obtain ⟨d1, d2, d3, d4⟩ := hSw; go_simp; try with_reducible rfl)
    try simp only [Act.put, List.setIfInBounds_toArray, List.set_cons_zero, List.set_cons_succ]
    refine Rb.till_take (i := 14) (oi := ⟨some 22, .nilCheck (.tmp 21), 0, "sketch.go:125", #[⟨13, .data⟩], none⟩) (v := ?_) rfl (by kernel_rfl) (by kernel_rfl) (by kernel_rfl) (fun _ _ _ h => h) (by decide) opA rfl (by kernel_rfl) (by kernel_rfl) (Or.inl ⟨by first | kernel_rfl | rfl, ?_⟩) (by assumption) ?_
    rotate_left
    · (intro w hSw; (try dsimp only at hSw); obtain ⟨d1, d2, d3, d4⟩ := hSw; go_simp; try with_reducible rfl)
    try simp only [Act.put, List.setIfInBounds_toArray, List.set_cons_zero, List.set_cons_succ]
    refine Rb.till_take (i := 15) (oi := ⟨some 23, .fieldAddr 105 (.tmp 22) 1, 0, "sketch.go:125", #[⟨14, .data⟩], none⟩) (v := ?_) rfl (by kernel_rfl) (by kernel_rfl) (by kernel_rfl) (fun _ _ _ h => h) (by decide) opA rfl (by kernel_rfl) (by kernel_rfl) (Or.inl ⟨by first | kernel_rfl | rfl, ?_⟩) (by assumption) ?_
    rotate_left
    · (intro w hSw; (try dsimp only at hSw); obtain ⟨d1, d2, d3, d4⟩ := hSw; go_simp; try with_reducible rfl)
    try simp only [Act.put, List.setIfInBounds_toArray, List.set_cons_zero, List.set_cons_succ]
    refine Rb.till_take (i := 16) (oi := ⟨some 24, .load 22 (.tmp 23), 22, "sketch.go:125", #[⟨15, .data⟩], none⟩) (v := ?_) rfl (by kernel_rfl) (by kernel_rfl) (by kernel_rfl) (fun _ _ _ h => h) (by decide) opA rfl (by kernel_rfl) (by kernel_rfl) (Or.inl ⟨by first | kernel_rfl | rfl, ?_⟩) (by assumption) ?_
    rotate_left
    · (intro w hSw; (try dsimp only at hSw); obtain ⟨d1, d2, d3, d4⟩ := hSw; go_simp; try with_reducible rfl)
    try simp only [Act.put, List.setIfInBounds_toArray, List.set_cons_zero, List.set_cons_succ]
    refine Rb.till_take (i := 17) (oi := ⟨some 25, .move (.tmp 1), 3, "sketch.go:125", #[], none⟩) (v := ?_) rfl (by kernel_rfl) (by kernel_rfl) (by kernel_rfl) (fun _ _ _ h => h) (by decide) opA rfl (by kernel_rfl) (by kernel_rfl) (Or.inl ⟨by first | kernel_rfl | rfl, ?_⟩) (by assumption) ?_
    rotate_left
    · (intro w hSw; (try dsimp only at hSw); obtain ⟨d1, d2, d3, d4⟩ := hSw; go_simp; try with_reducible rfl)
    try simp only [Act.put, List.setIfInBounds_toArray, List.set_cons_zero, List.set_cons_succ]
    refine Rb.till_take (i := 18) (oi := ⟨some 26, .indexAddr 22 (.tmp 24) (.tmp 25), 0, "sketch.go:125", #[⟨16, .data⟩, ⟨17, .data⟩], none⟩) (v := ?_) rfl (by kernel_rfl) (by kernel_rfl) (by kernel_rfl) (fun _ _ _ h => h) (by decide) opA rfl (by kernel_rfl) (by kernel_rfl) (Or.inl ⟨by first | kernel_rfl | rfl, ?_⟩) (by assumption) ?_
    rotate_left
    · (intro w hSw; (try dsimp only at hSw); obtain ⟨d1, d2, d3, d4⟩ := hSw; go_simp; try with_reducible rfl)
    try simp only [Act.put, List.setIfInBounds_toArray, List.set_cons_zero, List.set_cons_succ]
    refine Rb.till_take (i := 19) (oi := ⟨some 27, .load 3 (.tmp 26), 3, "sketch.go:125", #[⟨18, .data⟩], none⟩) (v := ?_) rfl (by kernel_rfl) (by kernel_rfl) (by kernel_rfl) (fun _ _ _ h => h) (by decide) opA rfl (by kernel_rfl) (by kernel_rfl) (Or.inl ⟨by first | kernel_rfl | rfl, ?_⟩) (by assumption) ?_
    rotate_left
    · (intro w hSw; (try dsimp only at hSw); obtain ⟨d1, d2, d3, d4⟩ := hSw; go_simp; try with_reducible rfl)
    try simp only [Act.put, List.setIfInBounds_toArray, List.set_cons_zero, List.set_cons_succ]
    refine Rb.till_take (i := 20) (oi := ⟨some 28, .binOp BinOp.mul 3 (.const (.int IntKind.i64 2097152)) (.tmp 27) 3, 3, "sketch.go:125", #[⟨19, .data⟩], none⟩) (v := ?_) rfl (by kernel_rfl) (by kernel_rfl) (by kernel_rfl) (fun _ _ _ h => h) (by decide) opA rfl (by kernel_rfl) (by kernel_rfl) (Or.inl ⟨by first | kernel_rfl | rfl, ?_⟩) (by assumption) ?_
    rotate_left
    · (intro w hSw; (try dsimp only at hSw); obtain ⟨d1, d2, d3, d4⟩ := hSw; go_simp; try with_reducible rfl)
    try simp only [Act.put, List.setIfInBounds_toArray, List.set_cons_zero, List.set_cons_succ]
    refine Rb.till_take (i := 21) (oi := ⟨some 29, .binOp BinOp.quo 3 (.tmp 20) (.tmp 28) 3, 3, "sketch.go:125", #[⟨12, .data⟩, ⟨20, .data⟩], none⟩) (v := ?_) rfl (by kernel_rfl) (by kernel_rfl) (by kernel_rfl) (fun _ _ _ h => h) (by decide) opA rfl (by kernel_rfl) (by kernel_rfl) (Or.inl ⟨by first | kernel_rfl | rfl, ?_⟩) (by assumption) ?_
    rotate_left
    · (intro w hSw; (try dsimp only at hSw); obtain ⟨d1, d2, d3, d4⟩ := hSw; go_simp; try with_reducible rfl)
    try simp only [Act.put, List.setIfInBounds_toArray, List.set_cons_zero, List.set_cons_succ]
    refine Rb.till_take (i := 22) (oi := ⟨some 30, .binOp BinOp.mul 3 (.tmp 15) (.tmp 29) 3, 3, "sketch.go:125", #[⟨7, .data⟩, ⟨21, .data⟩], none⟩) (v := ?_) rfl (by kernel_rfl) (by kernel_rfl) (by kernel_rfl) (fun _ _ _ h => h) (by decide) opA rfl (by kernel_rfl) (by kernel_rfl) (Or.inl ⟨by first | kernel_rfl | rfl, ?_⟩) (by assumption) ?_
    rotate_left
    · (intro w hSw; (try dsimp only at hSw); obtain ⟨d1, d2, d3, d4⟩ := hSw; go_simp; try with_reducible rfl)
    try simp only [Act.put, List.setIfInBounds_toArray, List.set_cons_zero, List.set_cons_succ]
    refine Rb.till_take (i := 23) (oi := ⟨some 31, .binOp BinOp.add 3 (.tmp 12) (.tmp 30) 3, 3, "sketch.go:125", #[⟨4, .data⟩, ⟨22, .data⟩], none⟩) (v := ?_) rfl (by kernel_rfl) (by kernel_rfl) (by kernel_rfl) (fun _ _ _ h => h) (by decide) opA rfl (by kernel_rfl) (by kernel_rfl) (Or.inl ⟨by first | kernel_rfl | rfl, ?_⟩) (by assumption) ?_
    rotate_left
    · (intro w hSw; (try dsimp only at hSw); obtain ⟨d1, d2, d3, d4⟩ := hSw; go_simp; try with_reducible rfl)
    try simp only [Act.put, List.setIfInBounds_toArray, List.set_cons_zero, List.set_cons_succ]
    refine Rb.till_free (i := 24) (oi := ⟨some 32, .nilCheck (.tmp 8), 0, "sketch.go:125", #[⟨0, .data⟩, ⟨0, .phase⟩, ⟨1, .phase⟩, ⟨2, .phase⟩, ⟨3, .phase⟩, ⟨4, .phase⟩, ⟨5, .phase⟩, ⟨6, .phase⟩, ⟨7, .phase⟩, ⟨8, .phase⟩, ⟨9, .phase⟩, ⟨10, .phase⟩, ⟨11, .phase⟩, ⟨12, .phase⟩, ⟨13, .phase⟩, ⟨14, .phase⟩, ⟨15, .phase⟩, ⟨16, .phase⟩, ⟨17, .phase⟩, ⟨18, .phase⟩, ⟨19, .phase⟩, ⟨20, .phase⟩, ⟨21, .phase⟩, ⟨22, .phase⟩, ⟨23, .phase⟩], none⟩) (v := ?_) rfl (by kernel_rfl) (by kernel_rfl) (by kernel_rfl) (fun _ _ _ h => h) (by decide) (Or.inl ⟨by first | kernel_rfl | rfl, ?_⟩) (fun _ => by assumption) ?_
    rotate_left
    · (intro w hSw; clear hSw; go_simp; try with_reducible rfl)
    try simp only [Act.put, List.setIfInBounds_toArray, List.set_cons_zero, List.set_cons_succ]
    refine Rb.till_free (i := 25) (oi := ⟨some 33, .fieldAddr 105 (.tmp 32) 0, 0, "sketch.go:125", #[⟨24, .data⟩, ⟨0, .phase⟩, ⟨1, .phase⟩, ⟨2, .phase⟩, ⟨3, .phase⟩, ⟨4, .phase⟩, ⟨5, .phase⟩, ⟨6, .phase⟩, ⟨7, .phase⟩, ⟨8, .phase⟩, ⟨9, .phase⟩, ⟨10, .phase⟩, ⟨11, .phase⟩, ⟨12, .phase⟩, ⟨13, .phase⟩, ⟨14, .phase⟩, ⟨15, .phase⟩, ⟨16, .phase⟩, ⟨17, .phase⟩, ⟨18, .phase⟩, ⟨19, .phase⟩, ⟨20, .phase⟩, ⟨21, .phase⟩, ⟨22, .phase⟩, ⟨23, .phase⟩], none⟩) (v := ?_) rfl (by kernel_rfl) (by kernel_rfl) (by kernel_rfl) (fun _ _ _ h => h) (by decide) (Or.inl ⟨by first | kernel_rfl | rfl, ?_⟩) (fun _ => by assumption) ?_
    rotate_left
    · (intro w hSw; clear hSw; go_simp; try with_reducible rfl)
    try simp only [Act.put, List.setIfInBounds_toArray, List.set_cons_zero, List.set_cons_succ]
    refine Rb.till_take (i := 26) (oi := ⟨some 34, .fieldAddr 103 (.tmp 33) 0, 0, "sketch.go:125", #[⟨25, .data⟩, ⟨0, .phase⟩, ⟨1, .phase⟩, ⟨2, .phase⟩, ⟨3, .phase⟩, ⟨4, .phase⟩, ⟨5, .phase⟩, ⟨6, .phase⟩, ⟨7, .phase⟩, ⟨8, .phase⟩, ⟨9, .phase⟩, ⟨10, .phase⟩, ⟨11, .phase⟩, ⟨12, .phase⟩, ⟨13, .phase⟩, ⟨14, .phase⟩, ⟨15, .phase⟩, ⟨16, .phase⟩, ⟨17, .phase⟩, ⟨18, .phase⟩, ⟨19, .phase⟩, ⟨20, .phase⟩, ⟨21, .phase⟩, ⟨22, .phase⟩, ⟨23, .phase⟩], none⟩) (v := ?_) rfl (by kernel_rfl) (by kernel_rfl) (by kernel_rfl) (fun _ _ _ h => h) (by decide) opA rfl (by kernel_rfl) (by kernel_rfl) (Or.inl ⟨by first | kernel_rfl | rfl, ?_⟩) (by assumption) ?_
    rotate_left
    · (intro w hSw; (try dsimp only at hSw); obtain ⟨d1, d2, d3, d4⟩ := hSw; go_simp; try with_reducible rfl)
    try simp only [Act.put, List.setIfInBounds_toArray, List.set_cons_zero, List.set_cons_succ]
    refine Rb.till_ready (rs := [27]) (by kernel_rfl) (by simp) ?_
    refine Rb.AllT.past (o := ⟨none, .store 3 (.tmp 34) (.tmp 31), 0, "sketch.go:125", #[⟨26, .data⟩, ⟨23, .data⟩, ⟨0, .phase⟩, ⟨1, .phase⟩, ⟨2, .phase⟩, ⟨3, .phase⟩, ⟨4, .phase⟩, ⟨5, .phase⟩, ⟨6, .phase⟩, ⟨7, .phase⟩, ⟨8, .phase⟩, ⟨9, .phase⟩, ⟨10, .phase⟩, ⟨11, .phase⟩, ⟨12, .phase⟩, ⟨13, .phase⟩, ⟨14, .phase⟩, ⟨15, .phase⟩, ⟨16, .phase⟩, ⟨17, .phase⟩, ⟨18, .phase⟩, ⟨19, .phase⟩, ⟨20, .phase⟩, ⟨21, .phase⟩, ⟨22, .phase⟩, ⟨23, .phase⟩], none⟩) rfl (by kernel_rfl) (fun K hK => ?_) (Rb.AllT.nil)
    · go_simp
      try go_wp2_with fail
      refine hK.out _ _ trivial (fun hH1 => ?_)
      clear hK K hH0
      try simp only [Act.put, List.setIfInBounds_toArray, List.set_cons_zero, List.set_cons_succ]
      refine Rb.till_done (by kernel_rfl) ?_ _
      refine NoPanic.normal ?_
      go_wp2_with fail
      go_end0
      exact ⟨rfl, (HK2.out.st 0 _).drw, (Ch.rf.st 0 _).drw⟩
  · subst hd
    obtain rfl : x = 16384 := by have := HX.out; omega
    obtain rfl : Y = 268435456 := by have := HYY.out; omega
    go_enter Try.func82, Try.ntmps82
    go_upto_region 1 with fail
    obtain ⟨w1, w2, w3, w4, w5, g0⟩ := HWS.out
    refine wp_region_noPanic ?_
    refine Rb.wp_region_till (S := fun W : World => W.cell? ⟨z, 0, none⟩ = some (.int .i64 num) ∧ W.cell? ⟨z, 1, none⟩ = some (.int .i64 D) ∧ W.cell? ⟨z, 2, none⟩ = some (.slice (some ⟨g, 0, none⟩) n n) ∧ W.cell? ⟨g, p, none⟩ = some (.int .i64 l)) 27 (by kernel_rfl) ?_ (fun hH0 => ?_)
    · (try dsimp only); exact KS.out _ (by repeat (first | exact Bel.rf | (with_reducible refine Bel.drwN ?_ _) | (with_reducible refine Bel.drw ?_) | (with_reducible refine Bel.al ?_ _)))
    refine Rb.till_take (i := 0) (oi := ⟨some 8, .move (.tmp 0), 128, "sketch.go:125", #[], none⟩) (v := ?_) rfl (by kernel_rfl) (by kernel_rfl) (by kernel_rfl) (fun _ _ _ h => h) (by decide) opA rfl (by kernel_rfl) (by kernel_rfl) (Or.inl ⟨by first | kernel_rfl | rfl, ?_⟩) (by assumption) ?_
    rotate_left
    · (intro w hSw; (try dsimp only at hSw); obtain ⟨d1, d2, d3, d4⟩ := hSw; go_simp; try with_reducible rfl)
    try simp only [Act.put, List.setIfInBounds_toArray, List.set_cons_zero, List.set_cons_succ]
    refine Rb.till_take (i := 1) (oi := ⟨some 9, .nilCheck (.tmp 8), 0, "sketch.go:125", #[⟨0, .data⟩], none⟩) (v := ?_) rfl (by kernel_rfl) (by kernel_rfl) (by kernel_rfl) (fun _ _ _ h => h) (by decide) opA rfl (by kernel_rfl) (by kernel_rfl) (Or.inl ⟨by first | kernel_rfl | rfl, ?_⟩) (by assumption) ?_
    rotate_left
    · (intro w hSw; (try dsimp only at hSw); obtain ⟨d1, d2, d3, d4⟩ := hSw; go_simp; try with_reducible rfl)
    try simp only [Act.put, List.setIfInBounds_toArray, List.set_cons_zero, List.set_cons_succ]
    refine Rb.till_take (i := 2) (oi := ⟨some 10, .fieldAddr 105 (.tmp 9) 0, 0, "sketch.go:125", #[⟨1, .data⟩], none⟩) (v := ?_) rfl (by kernel_rfl) (by kernel_rfl) (by kernel_rfl) (fun _ _ _ h => h) (by decide) opA rfl (by kernel_rfl) (by kernel_rfl) (Or.inl ⟨by first | kernel_rfl | rfl, ?_⟩) (by assumption) ?_
    rotate_left
    · (intro w hSw; (try dsimp only at hSw); obtain ⟨d1, d2, d3, d4⟩ := hSw; go_simp; try with_reducible rfl)
    try simp only [Act.put, List.setIfInBounds_toArray, List.set_cons_zero, List.set_cons_succ]
    refine Rb.till_take (i := 3) (oi := ⟨some 11, .fieldAddr 103 (.tmp 10) 0, 0, "sketch.go:125", #[⟨2, .data⟩], none⟩) (v := ?_) rfl (by kernel_rfl) (by kernel_rfl) (by kernel_rfl) (fun _ _ _ h => h) (by decide) opA rfl (by kernel_rfl) (by kernel_rfl) (Or.inl ⟨by first | kernel_rfl | rfl, ?_⟩) (by assumption) ?_
    rotate_left
    · (intro w hSw; (try dsimp only at hSw); obtain ⟨d1, d2, d3, d4⟩ := hSw; go_simp; try with_reducible rfl)
    try simp only [Act.put, List.setIfInBounds_toArray, List.set_cons_zero, List.set_cons_succ]
    refine Rb.till_take (i := 4) (oi := ⟨some 12, .load 3 (.tmp 11), 3, "sketch.go:125", #[⟨3, .data⟩], none⟩) (v := ?_) rfl (by kernel_rfl) (by kernel_rfl) (by kernel_rfl) (fun _ _ _ h => h) (by decide) opA rfl (by kernel_rfl) (by kernel_rfl) (Or.inl ⟨by first | kernel_rfl | rfl, ?_⟩) (by assumption) ?_
    rotate_left
    · (intro w hSw; (try dsimp only at hSw); obtain ⟨d1, d2, d3, d4⟩ := hSw; go_simp; try with_reducible rfl)
    try simp only [Act.put, List.setIfInBounds_toArray, List.set_cons_zero, List.set_cons_succ]
    refine Rb.till_take (i := 5) (oi := ⟨some 13, .move (.tmp 2), 3, "sketch.go:125", #[], none⟩) (v := ?_) rfl (by kernel_rfl) (by kernel_rfl) (by kernel_rfl) (fun _ _ _ h => h) (by decide) opA rfl (by kernel_rfl) (by kernel_rfl) (Or.inl ⟨by first | kernel_rfl | rfl, ?_⟩) (by assumption) ?_
    rotate_left
    · (intro w hSw; (try dsimp only at hSw); obtain ⟨d1, d2, d3, d4⟩ := hSw; go_simp; try with_reducible rfl)
    try simp only [Act.put, List.setIfInBounds_toArray, List.set_cons_zero, List.set_cons_succ]
    refine Rb.till_take (i := 6) (oi := ⟨some 14, .move (.tmp 2), 3, "sketch.go:125", #[], none⟩) (v := ?_) rfl (by kernel_rfl) (by kernel_rfl) (by kernel_rfl) (fun _ _ _ h => h) (by decide) opA rfl (by kernel_rfl) (by kernel_rfl) (Or.inl ⟨by first | kernel_rfl | rfl, ?_⟩) (by assumption) ?_
    rotate_left
    · (intro w hSw; (try dsimp only at hSw); obtain ⟨d1, d2, d3, d4⟩ := hSw; go_simp; try with_reducible rfl)
    try simp only [Act.put, List.setIfInBounds_toArray, List.set_cons_zero, List.set_cons_succ]
    refine Rb.till_take (i := 7) (oi := ⟨some 15, .binOp BinOp.mul 3 (.tmp 13) (.tmp 14) 3, 3, "sketch.go:125", #[⟨5, .data⟩, ⟨6, .data⟩], none⟩) (v := ?_) rfl (by kernel_rfl) (by kernel_rfl) (by kernel_rfl) (fun _ _ _ h => h) (by decide) opA rfl (by kernel_rfl) (by kernel_rfl) (Or.inl ⟨by first | kernel_rfl | rfl, ?_⟩) (by assumption) ?_
    rotate_left
    · (intro w hSw; (try dsimp only at hSw); obtain ⟨d1, d2, d3, d4⟩ := hSw; go_simp; try with_reducible rfl)
    try simp only [Act.put, List.setIfInBounds_toArray, List.set_cons_zero, List.set_cons_succ]
    refine Rb.till_take (i := 8) (oi := ⟨some 16, .move (.tmp 0), 128, "sketch.go:125", #[], none⟩) (v := ?_) rfl (by kernel_rfl) (by kernel_rfl) (by kernel_rfl) (fun _ _ _ h => h) (by decide) opA rfl (by kernel_rfl) (by kernel_rfl) (Or.inl ⟨by first | kernel_rfl | rfl, ?_⟩) (by assumption) ?_
    rotate_left
    · (intro w hSw; (try dsimp only at hSw); obtain ⟨d1, d2, d3, d4⟩ := hSw; go_simp; try with_reducible rfl)
    try simp only [Act.put, List.setIfInBounds_toArray, List.set_cons_zero, List.set_cons_succ]
    refine Rb.till_take (i := 9) (oi := ⟨some 17, .nilCheck (.tmp 16), 0, "sketch.go:125", #[⟨8, .data⟩], none⟩) (v := ?_) rfl (by kernel_rfl) (by kernel_rfl) (by kernel_rfl) (fun _ _ _ h => h) (by decide) opA rfl (by kernel_rfl) (by kernel_rfl) (Or.inl ⟨by first | kernel_rfl | rfl, ?_⟩) (by assumption) ?_
    rotate_left
    · (intro w hSw; (try dsimp only at hSw); obtain ⟨d1, d2, d3, d4⟩ := hSw; go_simp; try with_reducible rfl)
    try simp only [Act.put, List.setIfInBounds_toArray, List.set_cons_zero, List.set_cons_succ]
    refine Rb.till_take (i := 10) (oi := ⟨some 18, .fieldAddr 105 (.tmp 17) 0, 0, "sketch.go:125", #[⟨9, .data⟩], none⟩) (v := ?_) rfl (by kernel_rfl) (by kernel_rfl) (by kernel_rfl) (fun _ _ _ h => h) (by decide) opA rfl (by kernel_rfl) (by kernel_rfl) (Or.inl ⟨by first | kernel_rfl | rfl, ?_⟩) (by assumption) ?_
    rotate_left
    · (intro w hSw; (try dsimp only at hSw); obtain ⟨d1, d2, d3, d4⟩ := hSw; go_simp; try with_reducible rfl)
    try simp only [Act.put, List.setIfInBounds_toArray, List.set_cons_zero, List.set_cons_succ]
    refine Rb.till_take (i := 11) (oi := ⟨some 19, .fieldAddr 103 (.tmp 18) 1, 0, "sketch.go:125", #[⟨10, .data⟩], none⟩) (v := ?_) rfl (by kernel_rfl) (by kernel_rfl) (by kernel_rfl) (fun _ _ _ h => h) (by decide) opA rfl (by kernel_rfl) (by kernel_rfl) (Or.inl ⟨by first | kernel_rfl | rfl, ?_⟩) (by assumption) ?_
    rotate_left
    · (intro w hSw; (try dsimp only at hSw); obtain ⟨d1, d2, d3, d4⟩ := hSw; go_simp; try with_reducible rfl)
    try simp only [Act.put, List.setIfInBounds_toArray, List.set_cons_zero, List.set_cons_succ]
    refine Rb.till_take (i := 12) (oi := ⟨some 20, .load 3 (.tmp 19), 3, "sketch.go:125", #[⟨11, .data⟩], none⟩) (v := ?_) rfl (by kernel_rfl) (by kernel_rfl) (by kernel_rfl) (fun _ _ _ h => h) (by decide) opA rfl (by kernel_rfl) (by kernel_rfl) (Or.inl ⟨by first | kernel_rfl | rfl, ?_⟩) (by assumption) ?_
    rotate_left
    · (intro w hSw; (try dsimp only at hSw); obtain ⟨d1, d2, d3, d4⟩ := hSw; go_simp; try with_reducible rfl)
    try simp only [Act.put, List.setIfInBounds_toArray, List.set_cons_zero, List.set_cons_succ]
    refine Rb.till_take (i := 13) (oi := ⟨some 21, .move (.tmp 0), 128, "sketch.go:125", #[], none⟩) (v := ?_) rfl (by kernel_rfl) (by kernel_rfl) (by kernel_rfl) (fun _ _ _ h => h) (by decide) opA rfl (by kernel_rfl) (by kernel_rfl) (Or.inl ⟨by first | kernel_rfl | rfl, ?_⟩) (by assumption) ?_
    rotate_left
    · (intro w hSw; (try dsimp only at hSw); obtain ⟨d1, d2, d3, d4⟩ := hSw; go_simp; try with_reducible rfl)
    try simp only [Act.put, List.setIfInBounds_toArray, List.set_cons_zero, List.set_cons_succ]
    refine Rb.till_take (i := 14) (oi := ⟨some 22, .nilCheck (.tmp 21), 0, "sketch.go:125", #[⟨13, .data⟩], none⟩) (v := ?_) rfl (by kernel_rfl) (by kernel_rfl) (by kernel_rfl) (fun _ _ _ h => h) (by decide) opA rfl (by kernel_rfl) (by kernel_rfl) (Or.inl ⟨by first | kernel_rfl | rfl, ?_⟩) (by assumption) ?_
    rotate_left
    · (intro w hSw; (try dsimp only at hSw); obtain ⟨d1, d2, d3, d4⟩ := hSw; go_simp; try with_reducible rfl)
    try simp only [Act.put, List.setIfInBounds_toArray, List.set_cons_zero, List.set_cons_succ]
    refine Rb.till_take (i := 15) (oi := ⟨some 23, .fieldAddr 105 (.tmp 22) 1, 0, "sketch.go:125", #[⟨14, .data⟩], none⟩) (v := ?_) rfl (by kernel_rfl) (by kernel_rfl) (by kernel_rfl) (fun _ _ _ h => h) (by decide) opA rfl (by kernel_rfl) (by kernel_rfl) (Or.inl ⟨by first | kernel_rfl | rfl, ?_⟩) (by assumption) ?_
    rotate_left
    · (intro w hSw; (try dsimp only at hSw); obtain ⟨d1, d2, d3, d4⟩ := hSw; go_simp; try with_reducible rfl)
    try simp only [Act.put, List.setIfInBounds_toArray, List.set_cons_zero, List.set_cons_succ]
    refine Rb.till_take (i := 16) (oi := ⟨some 24, .load 22 (.tmp 23), 22, "sketch.go:125", #[⟨15, .data⟩], none⟩) (v := ?_) rfl (by kernel_rfl) (by kernel_rfl) (by kernel_rfl) (fun _ _ _ h => h) (by decide) opA rfl (by kernel_rfl) (by kernel_rfl) (Or.inl ⟨by first | kernel_rfl | rfl, ?_⟩) (by assumption) ?_
    rotate_left
    · (intro w hSw; (try dsimp only at hSw); obtain ⟨d1, d2, d3, d4⟩ := hSw; go_simp; try with_reducible rfl)
    try simp only [Act.put, List.setIfInBounds_toArray, List.set_cons_zero, List.set_cons_succ]
    refine Rb.till_take (i := 17) (oi := ⟨some 25, .move (.tmp 1), 3, "sketch.go:125", #[], none⟩) (v := ?_) rfl (by kernel_rfl) (by kernel_rfl) (by kernel_rfl) (fun _ _ _ h => h) (by decide) opA rfl (by kernel_rfl) (by kernel_rfl) (Or.inl ⟨by first | kernel_rfl | rfl, ?_⟩) (by assumption) ?_
    rotate_left
    · (intro w hSw; (try dsimp only at hSw); obtain ⟨d1, d2, d3, d4⟩ := hSw; go_simp; try with_reducible rfl)
    try simp only [Act.put, List.setIfInBounds_toArray, List.set_cons_zero, List.set_cons_succ]
    refine Rb.till_take (i := 18) (oi := ⟨some 26, .indexAddr 22 (.tmp 24) (.tmp 25), 0, "sketch.go:125", #[⟨16, .data⟩, ⟨17, .data⟩], none⟩) (v := ?_) rfl (by kernel_rfl) (by kernel_rfl) (by kernel_rfl) (fun _ _ _ h => h) (by decide) opA rfl (by kernel_rfl) (by kernel_rfl) (Or.inl ⟨by first | kernel_rfl | rfl, ?_⟩) (by assumption) ?_
    rotate_left
    · (intro w hSw; (try dsimp only at hSw); obtain ⟨d1, d2, d3, d4⟩ := hSw; go_simp; try with_reducible rfl)
    try simp only [Act.put, List.setIfInBounds_toArray, List.set_cons_zero, List.set_cons_succ]
    refine Rb.till_take (i := 19) (oi := ⟨some 27, .load 3 (.tmp 26), 3, "sketch.go:125", #[⟨18, .data⟩], none⟩) (v := ?_) rfl (by kernel_rfl) (by kernel_rfl) (by kernel_rfl) (fun _ _ _ h => h) (by decide) opA rfl (by kernel_rfl) (by kernel_rfl) (Or.inl ⟨by first | kernel_rfl | rfl, ?_⟩) (by assumption) ?_
    rotate_left
    · (intro w hSw; (try dsimp only at hSw); obtain ⟨d1, d2, d3, d4⟩ := hSw; go_simp; try with_reducible rfl)
    try simp only [Act.put, List.setIfInBounds_toArray, List.set_cons_zero, List.set_cons_succ]
    refine Rb.till_take (i := 20) (oi := ⟨some 28, .binOp BinOp.mul 3 (.const (.int IntKind.i64 2097152)) (.tmp 27) 3, 3, "sketch.go:125", #[⟨19, .data⟩], none⟩) (v := ?_) rfl (by kernel_rfl) (by kernel_rfl) (by kernel_rfl) (fun _ _ _ h => h) (by decide) opA rfl (by kernel_rfl) (by kernel_rfl) (Or.inl ⟨by first | kernel_rfl | rfl, ?_⟩) (by assumption) ?_
    rotate_left
    · (intro w hSw; (try dsimp only at hSw); obtain ⟨d1, d2, d3, d4⟩ := hSw; go_simp; try with_reducible rfl)
    try simp only [Act.put, List.setIfInBounds_toArray, List.set_cons_zero, List.set_cons_succ]
    refine Rb.till_take (i := 21) (oi := ⟨some 29, .binOp BinOp.quo 3 (.tmp 20) (.tmp 28) 3, 3, "sketch.go:125", #[⟨12, .data⟩, ⟨20, .data⟩], none⟩) (v := ?_) rfl (by kernel_rfl) (by kernel_rfl) (by kernel_rfl) (fun _ _ _ h => h) (by decide) opA rfl (by kernel_rfl) (by kernel_rfl) (Or.inl ⟨by first | kernel_rfl | rfl, ?_⟩) (by assumption) ?_
    rotate_left
    · (intro w hSw; (try dsimp only at hSw); obtain ⟨d1, d2, d3, d4⟩ := hSw; go_simp; try with_reducible rfl)
    try simp only [Act.put, List.setIfInBounds_toArray, List.set_cons_zero, List.set_cons_succ]
    refine Rb.till_take (i := 22) (oi := ⟨some 30, .binOp BinOp.mul 3 (.tmp 15) (.tmp 29) 3, 3, "sketch.go:125", #[⟨7, .data⟩, ⟨21, .data⟩], none⟩) (v := ?_) rfl (by kernel_rfl) (by kernel_rfl) (by kernel_rfl) (fun _ _ _ h => h) (by decide) opA rfl (by kernel_rfl) (by kernel_rfl) (Or.inl ⟨by first | kernel_rfl | rfl, ?_⟩) (by assumption) ?_
    rotate_left
    · (intro w hSw; (try dsimp only at hSw); obtain ⟨d1, d2, d3, d4⟩ := hSw; go_simp; try with_reducible rfl)
    try simp only [Act.put, List.setIfInBounds_toArray, List.set_cons_zero, List.set_cons_succ]
    refine Rb.till_take (i := 23) (oi := ⟨some 31, .binOp BinOp.add 3 (.tmp 12) (.tmp 30) 3, 3, "sketch.go:125", #[⟨4, .data⟩, ⟨22, .data⟩], none⟩) (v := ?_) rfl (by kernel_rfl) (by kernel_rfl) (by kernel_rfl) (fun _ _ _ h => h) (by decide) opA rfl (by kernel_rfl) (by kernel_rfl) (Or.inl ⟨by first | kernel_rfl | rfl, ?_⟩) (by assumption) ?_
    rotate_left
    · (intro w hSw; (try dsimp only at hSw); obtain ⟨d1, d2, d3, d4⟩ := hSw; go_simp; try with_reducible rfl)
    try simp only [Act.put, List.setIfInBounds_toArray, List.set_cons_zero, List.set_cons_succ]
    refine Rb.till_free (i := 24) (oi := ⟨some 32, .nilCheck (.tmp 8), 0, "sketch.go:125", #[⟨0, .data⟩, ⟨0, .phase⟩, ⟨1, .phase⟩, ⟨2, .phase⟩, ⟨3, .phase⟩, ⟨4, .phase⟩, ⟨5, .phase⟩, ⟨6, .phase⟩, ⟨7, .phase⟩, ⟨8, .phase⟩, ⟨9, .phase⟩, ⟨10, .phase⟩, ⟨11, .phase⟩, ⟨12, .phase⟩, ⟨13, .phase⟩, ⟨14, .phase⟩, ⟨15, .phase⟩, ⟨16, .phase⟩, ⟨17, .phase⟩, ⟨18, .phase⟩, ⟨19, .phase⟩, ⟨20, .phase⟩, ⟨21, .phase⟩, ⟨22, .phase⟩, ⟨23, .phase⟩], none⟩) (v := ?_) rfl (by kernel_rfl) (by kernel_rfl) (by kernel_rfl) (fun _ _ _ h => h) (by decide) (Or.inl ⟨by first | kernel_rfl | rfl, ?_⟩) (fun _ => by assumption) ?_
    rotate_left
    · (intro w hSw; clear hSw; go_simp; try with_reducible rfl)
    try simp only [Act.put, List.setIfInBounds_toArray, List.set_cons_zero, List.set_cons_succ]
    refine Rb.till_free (i := 25) (oi := ⟨some 33, .fieldAddr 105 (.tmp 32) 0, 0, "sketch.go:125", #[⟨24, .data⟩, ⟨0, .phase⟩, ⟨1, .phase⟩, ⟨2, .phase⟩, ⟨3, .phase⟩, ⟨4, .phase⟩, ⟨5, .phase⟩, ⟨6, .phase⟩, ⟨7, .phase⟩, ⟨8, .phase⟩, ⟨9, .phase⟩, ⟨10, .phase⟩, ⟨11, .phase⟩, ⟨12, .phase⟩, ⟨13, .phase⟩, ⟨14, .phase⟩, ⟨15, .phase⟩, ⟨16, .phase⟩, ⟨17, .phase⟩, ⟨18, .phase⟩, ⟨19, .phase⟩, ⟨20, .phase⟩, ⟨21, .phase⟩, ⟨22, .phase⟩, ⟨23, .phase⟩], none⟩) (v := ?_) rfl (by kernel_rfl) (by kernel_rfl) (by kernel_rfl) (fun _ _ _ h => h) (by decide) (Or.inl ⟨by first | kernel_rfl | rfl, ?_⟩) (fun _ => by assumption) ?_
    rotate_left
    · (intro w hSw; clear hSw; go_simp; try with_reducible rfl)
    try simp only [Act.put, List.setIfInBounds_toArray, List.set_cons_zero, List.set_cons_succ]
    refine Rb.till_take (i := 26) (oi := ⟨some 34, .fieldAddr 103 (.tmp 33) 0, 0, "sketch.go:125", #[⟨25, .data⟩, ⟨0, .phase⟩, ⟨1, .phase⟩, ⟨2, .phase⟩, ⟨3, .phase⟩, ⟨4, .phase⟩, ⟨5, .phase⟩, ⟨6, .phase⟩, ⟨7, .phase⟩, ⟨8, .phase⟩, ⟨9, .phase⟩, ⟨10, .phase⟩, ⟨11, .phase⟩, ⟨12, .phase⟩, ⟨13, .phase⟩, ⟨14, .phase⟩, ⟨15, .phase⟩, ⟨16, .phase⟩, ⟨17, .phase⟩, ⟨18, .phase⟩, ⟨19, .phase⟩, ⟨20, .phase⟩, ⟨21, .phase⟩, ⟨22, .phase⟩, ⟨23, .phase⟩], none⟩) (v := ?_) rfl (by kernel_rfl) (by kernel_rfl) (by kernel_rfl) (fun _ _ _ h => h) (by decide) opA rfl (by kernel_rfl) (by kernel_rfl) (Or.inl ⟨by first | kernel_rfl | rfl, ?_⟩) (by assumption) ?_
    rotate_left
    · (intro w hSw; (try dsimp only at hSw); obtain ⟨d1, d2, d3, d4⟩ := hSw; go_simp; try with_reducible rfl)
    try simp only [Act.put, List.setIfInBounds_toArray, List.set_cons_zero, List.set_cons_succ]
    refine Rb.till_ready (rs := [27]) (by kernel_rfl) (by simp) ?_
    refine Rb.AllT.past (o := ⟨none, .store 3 (.tmp 34) (.tmp 31), 0, "sketch.go:125", #[⟨26, .data⟩, ⟨23, .data⟩, ⟨0, .phase⟩, ⟨1, .phase⟩, ⟨2, .phase⟩, ⟨3, .phase⟩, ⟨4, .phase⟩, ⟨5, .phase⟩, ⟨6, .phase⟩, ⟨7, .phase⟩, ⟨8, .phase⟩, ⟨9, .phase⟩, ⟨10, .phase⟩, ⟨11, .phase⟩, ⟨12, .phase⟩, ⟨13, .phase⟩, ⟨14, .phase⟩, ⟨15, .phase⟩, ⟨16, .phase⟩, ⟨17, .phase⟩, ⟨18, .phase⟩, ⟨19, .phase⟩, ⟨20, .phase⟩, ⟨21, .phase⟩, ⟨22, .phase⟩, ⟨23, .phase⟩], none⟩) rfl (by kernel_rfl) (fun K hK => ?_) (Rb.AllT.nil)
    · go_simp
      try go_wp2_with fail
      refine hK.out _ _ trivial (fun hH1 => ?_)
      clear hK K hH0
      try simp only [Act.put, List.setIfInBounds_toArray, List.set_cons_zero, List.set_cons_succ]
      refine Rb.till_done (by kernel_rfl) ?_ _
      refine NoPanic.normal ?_
      go_wp2_with fail
      go_end0
      exact ⟨rfl, (HK2.out.st 0 _).drw, (Ch.rf.st 0 _).drw⟩
  · obtain rfl : x = 16384 := by have := HX.out; omega
    obtain rfl : Y = 268435456 := by have := HYY.out; omega
    go_enter Try.func82, Try.ntmps82
    go_upto_region 1 with fail
    obtain ⟨w1, w2, w3, w4, w5, g0⟩ := HWS.out
    refine wp_region_noPanic ?_
    refine Rb.wp_region_till (S := fun W : World => W.cell? ⟨z, 0, none⟩ = some (.int .i64 num) ∧ W.cell? ⟨z, 1, none⟩ = some (.int .i64 D) ∧ W.cell? ⟨z, 2, none⟩ = some (.slice (some ⟨g, 0, none⟩) n n) ∧ W.cell? ⟨g, p, none⟩ = some (.int .i64 l)) 27 (by kernel_rfl) ?_ (fun hH0 => ?_)
    · (try dsimp only); exact KS.out _ (by repeat (first | exact Bel.rf | (with_reducible refine Bel.drwN ?_ _) | (with_reducible refine Bel.drw ?_) | (with_reducible refine Bel.al ?_ _)))
    refine Rb.till_take (i := 0) (oi := ⟨some 8, .move (.tmp 0), 128, "sketch.go:125", #[], none⟩) (v := ?_) rfl (by kernel_rfl) (by kernel_rfl) (by kernel_rfl) (fun _ _ _ h => h) (by decide) opA rfl (by kernel_rfl) (by kernel_rfl) (Or.inl ⟨by first | kernel_rfl | rfl, ?_⟩) (by assumption) ?_
    rotate_left
    · (intro w hSw; (try dsimp only at hSw); obtain ⟨d1, d2, d3, d4⟩ := hSw; go_simp; try with_reducible rfl)
    try simp only [Act.put, List.setIfInBounds_toArray, List.set_cons_zero, List.set_cons_succ]
    refine Rb.till_take (i := 1) (oi := ⟨some 9, .nilCheck (.tmp 8), 0, "sketch.go:125", #[⟨0, .data⟩], none⟩) (v := ?_) rfl (by kernel_rfl) (by kernel_rfl) (by kernel_rfl) (fun _ _ _ h => h) (by decide) opA rfl (by kernel_rfl) (by kernel_rfl) (Or.inl ⟨by first | kernel_rfl | rfl, ?_⟩) (by assumption) ?_
    rotate_left
    · (intro w hSw; (try dsimp only at hSw); obtain ⟨d1, d2, d3, d4⟩ := hSw; go_simp; try with_reducible rfl)
    try simp only [Act.put, List.setIfInBounds_toArray, List.set_cons_zero, List.set_cons_succ]
    refine Rb.till_take (i := 2) (oi := ⟨some 10, .fieldAddr 105 (.tmp 9) 0, 0, "sketch.go:125", #[⟨1, .data⟩], none⟩) (v := ?_) rfl (by kernel_rfl) (by kernel_rfl) (by kernel_rfl) (fun _ _ _ h => h) (by decide) opA rfl (by kernel_rfl) (by kernel_rfl) (Or.inl ⟨by first | kernel_rfl | rfl, ?_⟩) (by assumption) ?_
    rotate_left
    · (intro w hSw; (try dsimp only at hSw); obtain ⟨d1, d2, d3, d4⟩ := hSw; go_simp; try with_reducible rfl)
    try simp only [Act.put, List.setIfInBounds_toArray, List.set_cons_zero, List.set_cons_succ]
    refine Rb.till_take (i := 3) (oi := ⟨some 11, .fieldAddr 103 (.tmp 10) 0, 0, "sketch.go:125", #[⟨2, .data⟩], none⟩) (v := ?_) rfl (by kernel_rfl) (by kernel_rfl) (by kernel_rfl) (fun _ _ _ h => h) (by decide) opA rfl (by kernel_rfl) (by kernel_rfl) (Or.inl ⟨by first | kernel_rfl | rfl, ?_⟩) (by assumption) ?_
    rotate_left
    · (intro w hSw; (try dsimp only at hSw); obtain ⟨d1, d2, d3, d4⟩ := hSw; go_simp; try with_reducible rfl)
    try simp only [Act.put, List.setIfInBounds_toArray, List.set_cons_zero, List.set_cons_succ]
    refine Rb.till_take (i := 4) (oi := ⟨some 12, .load 3 (.tmp 11), 3, "sketch.go:125", #[⟨3, .data⟩], none⟩) (v := ?_) rfl (by kernel_rfl) (by kernel_rfl) (by kernel_rfl) (fun _ _ _ h => h) (by decide) opA rfl (by kernel_rfl) (by kernel_rfl) (Or.inl ⟨by first | kernel_rfl | rfl, ?_⟩) (by assumption) ?_
    rotate_left
    · (intro w hSw; (try dsimp only at hSw); obtain ⟨d1, d2, d3, d4⟩ := hSw; go_simp; try with_reducible rfl)
    try simp only [Act.put, List.setIfInBounds_toArray, List.set_cons_zero, List.set_cons_succ]
    refine Rb.till_take (i := 5) (oi := ⟨some 13, .move (.tmp 2), 3, "sketch.go:125", #[], none⟩) (v := ?_) rfl (by kernel_rfl) (by kernel_rfl) (by kernel_rfl) (fun _ _ _ h => h) (by decide) opA rfl (by kernel_rfl) (by kernel_rfl) (Or.inl ⟨by first | kernel_rfl | rfl, ?_⟩) (by assumption) ?_
    rotate_left
    · (intro w hSw; (try dsimp only at hSw); obtain ⟨d1, d2, d3, d4⟩ := hSw; go_simp; try with_reducible rfl)
    try simp only [Act.put, List.setIfInBounds_toArray, List.set_cons_zero, List.set_cons_succ]
    refine Rb.till_take (i := 6) (oi := ⟨some 14, .move (.tmp 2), 3, "sketch.go:125", #[], none⟩) (v := ?_) rfl (by kernel_rfl) (by kernel_rfl) (by kernel_rfl) (fun _ _ _ h => h) (by decide) opA rfl (by kernel_rfl) (by kernel_rfl) (Or.inl ⟨by first | kernel_rfl | rfl, ?_⟩) (by assumption) ?_
    rotate_left
    · (intro w hSw; (try dsimp only at hSw); obtain ⟨d1, d2, d3, d4⟩ := hSw; go_simp; try with_reducible rfl)
    try simp only [Act.put, List.setIfInBounds_toArray, List.set_cons_zero, List.set_cons_succ]
    refine Rb.till_take (i := 7) (oi := ⟨some 15, .binOp BinOp.mul 3 (.tmp 13) (.tmp 14) 3, 3, "sketch.go:125", #[⟨5, .data⟩, ⟨6, .data⟩], none⟩) (v := ?_) rfl (by kernel_rfl) (by kernel_rfl) (by kernel_rfl) (fun _ _ _ h => h) (by decide) opA rfl (by kernel_rfl) (by kernel_rfl) (Or.inl ⟨by first | kernel_rfl | rfl, ?_⟩) (by assumption) ?_
    rotate_left
    · (intro w hSw; (try dsimp only at hSw); obtain ⟨d1, d2, d3, d4⟩ := hSw; go_simp; try with_reducible rfl)
    try simp only [Act.put, List.setIfInBounds_toArray, List.set_cons_zero, List.set_cons_succ]
    refine Rb.till_take (i := 8) (oi := ⟨some 16, .move (.tmp 0), 128, "sketch.go:125", #[], none⟩) (v := ?_) rfl (by kernel_rfl) (by kernel_rfl) (by kernel_rfl) (fun _ _ _ h => h) (by decide) opA rfl (by kernel_rfl) (by kernel_rfl) (Or.inl ⟨by first | kernel_rfl | rfl, ?_⟩) (by assumption) ?_
    rotate_left
    · (intro w hSw; (try dsimp only at hSw); obtain ⟨d1, d2, d3, d4⟩ := hSw; go_simp; try with_reducible rfl)
    try simp only [Act.put, List.setIfInBounds_toArray, List.set_cons_zero, List.set_cons_succ]
    refine Rb.till_take (i := 9) (oi := ⟨some 17, .nilCheck (.tmp 16), 0, "sketch.go:125", #[⟨8, .data⟩], none⟩) (v := ?_) rfl (by kernel_rfl) (by kernel_rfl) (by kernel_rfl) (fun _ _ _ h => h) (by decide) opA rfl (by kernel_rfl) (by kernel_rfl) (Or.inl ⟨by first | kernel_rfl | rfl, ?_⟩) (by assumption) ?_
    rotate_left
    · (intro w hSw; (try dsimp only at hSw); obtain ⟨d1, d2, d3, d4⟩ := hSw; go_simp; try with_reducible rfl)
    try simp only [Act.put, List.setIfInBounds_toArray, List.set_cons_zero, List.set_cons_succ]
    refine Rb.till_take (i := 10) (oi := ⟨some 18, .fieldAddr 105 (.tmp 17) 0, 0, "sketch.go:125", #[⟨9, .data⟩], none⟩) (v := ?_) rfl (by kernel_rfl) (by kernel_rfl) (by kernel_rfl) (fun _ _ _ h => h) (by decide) opA rfl (by kernel_rfl) (by kernel_rfl) (Or.inl ⟨by first | kernel_rfl | rfl, ?_⟩) (by assumption) ?_
    rotate_left
    · (intro w hSw; (try dsimp only at hSw); obtain ⟨d1, d2, d3, d4⟩ := hSw; go_simp; try with_reducible rfl)
    try simp only [Act.put, List.setIfInBounds_toArray, List.set_cons_zero, List.set_cons_succ]
    refine Rb.till_take (i := 11) (oi := ⟨some 19, .fieldAddr 103 (.tmp 18) 1, 0, "sketch.go:125", #[⟨10, .data⟩], none⟩) (v := ?_) rfl (by kernel_rfl) (by kernel_rfl) (by kernel_rfl) (fun _ _ _ h => h) (by decide) opA rfl (by kernel_rfl) (by kernel_rfl) (Or.inl ⟨by first | kernel_rfl | rfl, ?_⟩) (by assumption) ?_
    rotate_left
    · (intro w hSw; (try dsimp only at hSw); obtain ⟨d1, d2, d3, d4⟩ := hSw; go_simp; try with_reducible rfl)
    try simp only [Act.put, List.setIfInBounds_toArray, List.set_cons_zero, List.set_cons_succ]
    refine Rb.till_take (i := 12) (oi := ⟨some 20, .load 3 (.tmp 19), 3, "sketch.go:125", #[⟨11, .data⟩], none⟩) (v := ?_) rfl (by kernel_rfl) (by kernel_rfl) (by kernel_rfl) (fun _ _ _ h => h) (by decide) opA rfl (by kernel_rfl) (by kernel_rfl) (Or.inl ⟨by first | kernel_rfl | rfl, ?_⟩) (by assumption) ?_
    rotate_left
    · (intro w hSw; (try dsimp only at hSw); obtain ⟨d1, d2, d3, d4⟩ := hSw; go_simp; try with_reducible rfl)
    try simp only [Act.put, List.setIfInBounds_toArray, List.set_cons_zero, List.set_cons_succ]
    refine Rb.till_take (i := 13) (oi := ⟨some 21, .move (.tmp 0), 128, "sketch.go:125", #[], none⟩) (v := ?_) rfl (by kernel_rfl) (by kernel_rfl) (by kernel_rfl) (fun _ _ _ h => h) (by decide) opA rfl (by kernel_rfl) (by kernel_rfl) (Or.inl ⟨by first | kernel_rfl | rfl, ?_⟩) (by assumption) ?_
    rotate_left
    · (intro w hSw; (try dsimp only at hSw); obtain ⟨d1, d2, d3, d4⟩ := hSw; go_simp; try with_reducible rfl)
    try simp only [Act.put, List.setIfInBounds_toArray, List.set_cons_zero, List.set_cons_succ]
    refine Rb.till_take (i := 14) (oi := ⟨some 22, .nilCheck (.tmp 21), 0, "sketch.go:125", #[⟨13, .data⟩], none⟩) (v := ?_) rfl (by kernel_rfl) (by kernel_rfl) (by kernel_rfl) (fun _ _ _ h => h) (by decide) opA rfl (by kernel_rfl) (by kernel_rfl) (Or.inl ⟨by first | kernel_rfl | rfl, ?_⟩) (by assumption) ?_
    rotate_left
    · (intro w hSw; (try dsimp only at hSw); obtain ⟨d1, d2, d3, d4⟩ := hSw; go_simp; try with_reducible rfl)
    try simp only [Act.put, List.setIfInBounds_toArray, List.set_cons_zero, List.set_cons_succ]
    refine Rb.till_take (i := 15) (oi := ⟨some 23, .fieldAddr 105 (.tmp 22) 1, 0, "sketch.go:125", #[⟨14, .data⟩], none⟩) (v := ?_) rfl (by kernel_rfl) (by kernel_rfl) (by kernel_rfl) (fun _ _ _ h => h) (by decide) opA rfl (by kernel_rfl) (by kernel_rfl) (Or.inl ⟨by first | kernel_rfl | rfl, ?_⟩) (by assumption) ?_
    rotate_left
    · (intro w hSw; (try dsimp only at hSw); obtain ⟨d1, d2, d3, d4⟩ := hSw; go_simp; try with_reducible rfl)
    try simp only [Act.put, List.setIfInBounds_toArray, List.set_cons_zero, List.set_cons_succ]
    refine Rb.till_take (i := 16) (oi := ⟨some 24, .load 22 (.tmp 23), 22, "sketch.go:125", #[⟨15, .data⟩], none⟩) (v := ?_) rfl (by kernel_rfl) (by kernel_rfl) (by kernel_rfl) (fun _ _ _ h => h) (by decide) opA rfl (by kernel_rfl) (by kernel_rfl) (Or.inl ⟨by first | kernel_rfl | rfl, ?_⟩) (by assumption) ?_
    rotate_left
    · (intro w hSw; (try dsimp only at hSw); obtain ⟨d1, d2, d3, d4⟩ := hSw; go_simp; try with_reducible rfl)
    try simp only [Act.put, List.setIfInBounds_toArray, List.set_cons_zero, List.set_cons_succ]
    refine Rb.till_take (i := 17) (oi := ⟨some 25, .move (.tmp 1), 3, "sketch.go:125", #[], none⟩) (v := ?_) rfl (by kernel_rfl) (by kernel_rfl) (by kernel_rfl) (fun _ _ _ h => h) (by decide) opA rfl (by kernel_rfl) (by kernel_rfl) (Or.inl ⟨by first | kernel_rfl | rfl, ?_⟩) (by assumption) ?_
    rotate_left
    · (intro w hSw; (try dsimp only at hSw); obtain ⟨d1, d2, d3, d4⟩ := hSw; go_simp; try with_reducible rfl)
    try simp only [Act.put, List.setIfInBounds_toArray, List.set_cons_zero, List.set_cons_succ]
    refine Rb.till_take (i := 18) (oi := ⟨some 26, .indexAddr 22 (.tmp 24) (.tmp 25), 0, "sketch.go:125", #[⟨16, .data⟩, ⟨17, .data⟩], none⟩) (v := ?_) rfl (by kernel_rfl) (by kernel_rfl) (by kernel_rfl) (fun _ _ _ h => h) (by decide) opA rfl (by kernel_rfl) (by kernel_rfl) (Or.inl ⟨by first | kernel_rfl | rfl, ?_⟩) (by assumption) ?_
    rotate_left
    · (intro w hSw; (try dsimp only at hSw); obtain ⟨d1, d2, d3, d4⟩ := hSw; go_simp; try with_reducible rfl)
    try simp only [Act.put, List.setIfInBounds_toArray, List.set_cons_zero, List.set_cons_succ]
    refine Rb.till_take (i := 19) (oi := ⟨some 27, .load 3 (.tmp 26), 3, "sketch.go:125", #[⟨18, .data⟩], none⟩) (v := ?_) rfl (by kernel_rfl) (by kernel_rfl) (by kernel_rfl) (fun _ _ _ h => h) (by decide) opA rfl (by kernel_rfl) (by kernel_rfl) (Or.inl ⟨by first | kernel_rfl | rfl, ?_⟩) (by assumption) ?_
    rotate_left
    · (intro w hSw; (try dsimp only at hSw); obtain ⟨d1, d2, d3, d4⟩ := hSw; go_simp; try with_reducible rfl)
    try simp only [Act.put, List.setIfInBounds_toArray, List.set_cons_zero, List.set_cons_succ]
    refine Rb.till_take (i := 20) (oi := ⟨some 28, .binOp BinOp.mul 3 (.const (.int IntKind.i64 2097152)) (.tmp 27) 3, 3, "sketch.go:125", #[⟨19, .data⟩], none⟩) (v := ?_) rfl (by kernel_rfl) (by kernel_rfl) (by kernel_rfl) (fun _ _ _ h => h) (by decide) opA rfl (by kernel_rfl) (by kernel_rfl) (Or.inl ⟨by first | kernel_rfl | rfl, ?_⟩) (by assumption) ?_
    rotate_left
    · (intro w hSw; (try dsimp only at hSw); obtain ⟨d1, d2, d3, d4⟩ := hSw; go_simp; try with_reducible rfl)
    try simp only [Act.put, List.setIfInBounds_toArray, List.set_cons_zero, List.set_cons_succ]
    refine Rb.till_take (i := 21) (oi := ⟨some 29, .binOp BinOp.quo 3 (.tmp 20) (.tmp 28) 3, 3, "sketch.go:125", #[⟨12, .data⟩, ⟨20, .data⟩], none⟩) (v := ?_) rfl (by kernel_rfl) (by kernel_rfl) (by kernel_rfl) (fun _ _ _ h => h) (by decide) opA rfl (by kernel_rfl) (by kernel_rfl) (Or.inl ⟨by first | kernel_rfl | rfl, ?_⟩) (by assumption) ?_
    rotate_left
    · (intro w hSw; (try dsimp only at hSw); obtain ⟨d1, d2, d3, d4⟩ := hSw; go_simp; try with_reducible rfl)
    try simp only [Act.put, List.setIfInBounds_toArray, List.set_cons_zero, List.set_cons_succ]
    refine Rb.till_take (i := 22) (oi := ⟨some 30, .binOp BinOp.mul 3 (.tmp 15) (.tmp 29) 3, 3, "sketch.go:125", #[⟨7, .data⟩, ⟨21, .data⟩], none⟩) (v := ?_) rfl (by kernel_rfl) (by kernel_rfl) (by kernel_rfl) (fun _ _ _ h => h) (by decide) opA rfl (by kernel_rfl) (by kernel_rfl) (Or.inl ⟨by first | kernel_rfl | rfl, ?_⟩) (by assumption) ?_
    rotate_left
    · (intro w hSw; (try dsimp only at hSw); obtain ⟨d1, d2, d3, d4⟩ := hSw; go_simp; try with_reducible rfl)
    try simp only [Act.put, List.setIfInBounds_toArray, List.set_cons_zero, List.set_cons_succ]
    refine Rb.till_take (i := 23) (oi := ⟨some 31, .binOp BinOp.add 3 (.tmp 12) (.tmp 30) 3, 3, "sketch.go:125", #[⟨4, .data⟩, ⟨22, .data⟩], none⟩) (v := ?_) rfl (by kernel_rfl) (by kernel_rfl) (by kernel_rfl) (fun _ _ _ h => h) (by decide) opA rfl (by kernel_rfl) (by kernel_rfl) (Or.inl ⟨by first | kernel_rfl | rfl, ?_⟩) (by assumption) ?_
    rotate_left
    · (intro w hSw; (try dsimp only at hSw); obtain ⟨d1, d2, d3, d4⟩ := hSw; go_simp; try with_reducible rfl)
    try simp only [Act.put, List.setIfInBounds_toArray, List.set_cons_zero, List.set_cons_succ]
    refine Rb.till_free (i := 24) (oi := ⟨some 32, .nilCheck (.tmp 8), 0, "sketch.go:125", #[⟨0, .data⟩, ⟨0, .phase⟩, ⟨1, .phase⟩, ⟨2, .phase⟩, ⟨3, .phase⟩, ⟨4, .phase⟩, ⟨5, .phase⟩, ⟨6, .phase⟩, ⟨7, .phase⟩, ⟨8, .phase⟩, ⟨9, .phase⟩, ⟨10, .phase⟩, ⟨11, .phase⟩, ⟨12, .phase⟩, ⟨13, .phase⟩, ⟨14, .phase⟩, ⟨15, .phase⟩, ⟨16, .phase⟩, ⟨17, .phase⟩, ⟨18, .phase⟩, ⟨19, .phase⟩, ⟨20, .phase⟩, ⟨21, .phase⟩, ⟨22, .phase⟩, ⟨23, .phase⟩], none⟩) (v := ?_) rfl (by kernel_rfl) (by kernel_rfl) (by kernel_rfl) (fun _ _ _ h => h) (by decide) (Or.inl ⟨by first | kernel_rfl | rfl, ?_⟩) (fun _ => by assumption) ?_
    rotate_left
    · (intro w hSw; clear hSw; go_simp; try with_reducible rfl)
    try simp only [Act.put, List.setIfInBounds_toArray, List.set_cons_zero, List.set_cons_succ]
    refine Rb.till_free (i := 25) (oi := ⟨some 33, .fieldAddr 105 (.tmp 32) 0, 0, "sketch.go:125", #[⟨24, .data⟩, ⟨0, .phase⟩, ⟨1, .phase⟩, ⟨2, .phase⟩, ⟨3, .phase⟩, ⟨4, .phase⟩, ⟨5, .phase⟩, ⟨6, .phase⟩, ⟨7, .phase⟩, ⟨8, .phase⟩, ⟨9, .phase⟩, ⟨10, .phase⟩, ⟨11, .phase⟩, ⟨12, .phase⟩, ⟨13, .phase⟩, ⟨14, .phase⟩, ⟨15, .phase⟩, ⟨16, .phase⟩, ⟨17, .phase⟩, ⟨18, .phase⟩, ⟨19, .phase⟩, ⟨20, .phase⟩, ⟨21, .phase⟩, ⟨22, .phase⟩, ⟨23, .phase⟩], none⟩) (v := ?_) rfl (by kernel_rfl) (by kernel_rfl) (by kernel_rfl) (fun _ _ _ h => h) (by decide) (Or.inl ⟨by first | kernel_rfl | rfl, ?_⟩) (fun _ => by assumption) ?_
    rotate_left
    · (intro w hSw; clear hSw; go_simp; try with_reducible rfl)
    try simp only [Act.put, List.setIfInBounds_toArray, List.set_cons_zero, List.set_cons_succ]
    refine Rb.till_take (i := 26) (oi := ⟨some 34, .fieldAddr 103 (.tmp 33) 0, 0, "sketch.go:125", #[⟨25, .data⟩, ⟨0, .phase⟩, ⟨1, .phase⟩, ⟨2, .phase⟩, ⟨3, .phase⟩, ⟨4, .phase⟩, ⟨5, .phase⟩, ⟨6, .phase⟩, ⟨7, .phase⟩, ⟨8, .phase⟩, ⟨9, .phase⟩, ⟨10, .phase⟩, ⟨11, .phase⟩, ⟨12, .phase⟩, ⟨13, .phase⟩, ⟨14, .phase⟩, ⟨15, .phase⟩, ⟨16, .phase⟩, ⟨17, .phase⟩, ⟨18, .phase⟩, ⟨19, .phase⟩, ⟨20, .phase⟩, ⟨21, .phase⟩, ⟨22, .phase⟩, ⟨23, .phase⟩], none⟩) (v := ?_) rfl (by kernel_rfl) (by kernel_rfl) (by kernel_rfl) (fun _ _ _ h => h) (by decide) opA rfl (by kernel_rfl) (by kernel_rfl) (Or.inl ⟨by first | kernel_rfl | rfl, ?_⟩) (by assumption) ?_
    rotate_left
    · (intro w hSw; (try dsimp only at hSw); obtain ⟨d1, d2, d3, d4⟩ := hSw; go_simp; try with_reducible rfl)
    try simp only [Act.put, List.setIfInBounds_toArray, List.set_cons_zero, List.set_cons_succ]
    refine Rb.till_ready (rs := [27]) (by kernel_rfl) (by simp) ?_
    refine Rb.AllT.past (o := ⟨none, .store 3 (.tmp 34) (.tmp 31), 0, "sketch.go:125", #[⟨26, .data⟩, ⟨23, .data⟩, ⟨0, .phase⟩, ⟨1, .phase⟩, ⟨2, .phase⟩, ⟨3, .phase⟩, ⟨4, .phase⟩, ⟨5, .phase⟩, ⟨6, .phase⟩, ⟨7, .phase⟩, ⟨8, .phase⟩, ⟨9, .phase⟩, ⟨10, .phase⟩, ⟨11, .phase⟩, ⟨12, .phase⟩, ⟨13, .phase⟩, ⟨14, .phase⟩, ⟨15, .phase⟩, ⟨16, .phase⟩, ⟨17, .phase⟩, ⟨18, .phase⟩, ⟨19, .phase⟩, ⟨20, .phase⟩, ⟨21, .phase⟩, ⟨22, .phase⟩, ⟨23, .phase⟩], none⟩) rfl (by kernel_rfl) (fun K hK => ?_) (Rb.AllT.nil)
    · go_simp
      try go_wp2_with fail
      refine hK.out _ _ trivial (fun hH1 => ?_)
      clear hK K hH0
      try simp only [Act.put, List.setIfInBounds_toArray, List.set_cons_zero, List.set_cons_succ]
      refine Rb.till_done (by kernel_rfl) ?_ _
      refine NoPanic.normal ?_
      go_wp2_with fail
      go_end0
      exact ⟨rfl, (HK2.out.st 0 _).drw, (Ch.rf.st 0 _).drw⟩
end Go.Proofs.Ytmgdoglnckkobaa.Sk
namespace Go.Proofs.Ytmgdoglnckkobaa.Sk
open Go.ChangeShapes Go.WideShapes Go.RowKit Wo Sr Wi Nr Pc Eu Ra
open Wd (Rp rs rs_at rs_cons)
set_option linter.unusedVariables false
set_option linter.unusedSimpArgs false
def bH (num D : Int) : Int := max (D - num) (-D)
def bA (h : Int) : Int := if h < 0 then -h else h
def bT (num D : Int) : Int := D * D - bH num D * bA (bH num D)
theorem bH_in {num D : Int} (n0 : 0 ≤ num) (D1 : 1 ≤ D) : -D ≤ bH num D ∧ bH num D ≤ D := by unfold bH; omega
theorem bA_in {h D : Int} (h1 : -D ≤ h) (h2 : h ≤ D) : 0 ≤ bA h ∧ bA h ≤ D := by unfold bA; split <;> omega
theorem sgn_mono {x y : Int} (h : x ≤ y) : x * bA x ≤ y * bA y := by
  unfold bA
  by_cases hx : x < 0
  · rw [if_pos hx]
    by_cases hy : y < 0
    · rw [if_pos hy]
      have h1 : (-y) * (-y) ≤ (-x) * (-x) := Int.mul_le_mul (by omega) (by omega) (by omega) (by omega)
      have e1 : (-y) * (-y) = -(y * -y) := by grind
      have e2 : (-x) * (-x) = -(x * -x) := by grind
      omega
    · rw [if_neg hy]
      have h1 : 0 ≤ (-x) * (-x) := Int.mul_nonneg (by omega) (by omega)
      have h2 : 0 ≤ y * y := Int.mul_nonneg (by omega) (by omega)
      have e2 : (-x) * (-x) = -(x * -x) := by grind
      omega
  · rw [if_neg hx, if_neg (by omega)]
    exact Int.mul_le_mul h h (by omega) (by omega)
theorem bT_mono {a b D : Int} (h : a ≤ b) : bT a D ≤ bT b D := by
  unfold bT
  have : bH b D ≤ bH a D := by unfold bH; omega
  have := sgn_mono this
  omega
theorem bT_in {num D : Int} (n0 : 0 ≤ num) (D1 : 1 ≤ D) (D2 : D ≤ 1073741824) : 0 ≤ bT num D ∧ bT num D ≤ 2305843009213693952 ∧ 1 ≤ D * D ∧ D * D ≤ 1152921504606846976 ∧ -(D * D) ≤ bH num D * bA (bH num D) ∧ bH num D * bA (bH num D) ≤ D * D := by
  have h := bH_in n0 D1
  have d1 : D * D ≤ 1073741824 * 1073741824 := Int.mul_le_mul D2 D2 (by omega) (by decide)
  have d2 : 1 * 1 ≤ D * D := Int.mul_le_mul D1 D1 (by decide) (by omega)
  have m1 := sgn_mono h.1
  have m2 := sgn_mono h.2
  have e1 : (-D) * bA (-D) = -(D * D) := by unfold bA; rw [if_pos (by omega)]; grind
  have e2 : D * bA D = D * D := by unfold bA; rw [if_neg (by omega)]
  rw [e1] at m1
  rw [e2] at m2
  unfold bT
  omega
theorem abs_any (k : Int) (h0 : -1152921504606846976 ≤ k) (h1 : k ≤ 1152921504606846976) (w : World) : Calls Try.prog 111 #[.int .i64 k] w fun e w' => e = .returned (.int .i64 (bA k)) ∧ Bel w w' := by
  rcases Int.lt_or_le k 0 with h | h
  · have HE : Hid (bA k = -k) := if_pos h
    go_enter Try.func111, Try.ntmps111
    go_wp2
    go_ret
    exact ⟨congrArg (fun z => Ending.returned (.int .i64 z)) HE.out.symm, (by repeat (first | exact Bel.rf | (with_reducible refine Bel.drwN ?_ _) | (with_reducible refine Bel.drw ?_) | (with_reducible refine Bel.al ?_ _)))⟩
  · have HE : Hid (bA k = k) := if_neg (by omega)
    go_enter Try.func111, Try.ntmps111
    go_wp2
    go_ret
    exact ⟨congrArg (fun z => Ending.returned (.int .i64 z)) HE.out.symm, (by repeat (first | exact Bel.rf | (with_reducible refine Bel.drwN ?_ _) | (with_reducible refine Bel.drw ?_) | (with_reducible refine Bel.al ?_ _)))⟩
set_option maxHeartbeats 8000000 in
set_option maxRecDepth 100000 in
theorem bound_ok (num D : Int) (A : Option Addr) (n c : Nat) (n0 : 0 ≤ num) (nm1 : num ≤ 1152921504606846976) (D1 : 1 ≤ D) (D2 : D ≤ 1073741824) (w : World) :
    Calls Try.prog 83 #[.agg #[.int .i64 num, .int .i64 D, .slice A n c]] w fun e w' => (∃ t u, e = .returned (.tuple #[.agg #[.int .i64 t, .int .i64 u], .int .i64 0]) ∧ Vl t u (bT num D) (D * D)) ∧ Bel w w' := by
  have bi := bT_in n0 D1 D2
  have hi := bH_in n0 D1
  have mf := make_facts bi.1 bi.2.2.1 bi.2.1 bi.2.2.2.1
  have MK : Hid (∀ W, Calls Try.prog 54 #[.int .i64 (bT num D), .int .i64 (D * D)] W fun e w' => e = .returned (.tuple #[.agg #[.int .i64 (bT num D / gd (bT num D) (D * D)), .int .i64 (D * D / gd (bT num D) (D * D))], .int .i64 0]) ∧ Bel W w') := fun W => make_in _ _ W bi.1 bi.2.2.1 (rin_yes mf.2.2.2.2.2.2.1.1) (by omega) (by omega)
  have HVL : Hid (Vl (bT num D / gd (bT num D) (D * D)) (D * D / gd (bT num D) (D * D)) (bT num D) (D * D)) := ⟨mf.2.2.2.2.2.2.1, mf.2.2.2.2.2.2.2⟩
  have HHH : Hid (bH num D = max (D - num) (-D)) := rfl
  have HTT : Hid (bT num D = D * D - bH num D * bA (bH num D)) := rfl
  obtain ⟨h, hh⟩ : ∃ h, bH num D = h := ⟨_, rfl⟩
  rw [hh] at bi hi HHH HTT
  have AB : Hid (∀ W, Calls Try.prog 111 #[.int .i64 h] W fun e w' => e = .returned (.int .i64 (bA h)) ∧ Bel W w') := fun W => abs_any h (by omega) (by omega) W
  obtain ⟨ah, hah⟩ : ∃ x, bA h = x := ⟨_, rfl⟩
  rw [hah] at bi AB HTT
  obtain ⟨HH, hHH⟩ : ∃ x, h * ah = x := ⟨_, rfl⟩
  obtain ⟨E, hE⟩ : ∃ x, D * D = x := ⟨_, rfl⟩
  obtain ⟨T, hT⟩ : ∃ x, bT num D = x := ⟨_, rfl⟩
  rw [hT, hE] at bi MK HVL
  rw [hT, hE, hHH] at HTT
  rw [hHH] at bi
  rw [hT, hE]
  have w1 : IntKind.i64.wrap (D * D) = E := by rw [hE]; exact IntWalk.i64_in _ (by omega)
  have w2 : IntKind.i64.wrap (h * ah) = HH := by rw [hHH]; exact IntWalk.i64_in _ (by omega)
  have w3 : IntKind.i64.wrap (E - HH) = T := by rw [← HTT.out]; exact IntWalk.i64_in _ (by omega)
  have HWS := Lib.hid (And.intro w1 (And.intro w2 w3))
  obtain ⟨t, ht⟩ : ∃ t, T / gd T E = t := ⟨_, rfl⟩
  obtain ⟨u, hu⟩ : ∃ t, E / gd T E = t := ⟨_, rfl⟩
  rw [ht, hu] at MK HVL
  have HB0 : Hid (Bk ((w.alloc (.cells #[.int .i64 num, .int .i64 D, .slice A n c] 105)).alloc (.cells #[.int .i64 0, .int .i64 0] 37)) w.heap.size 105 #[.int .i64 num, .int .i64 D, .slice A n c]) := (Bk.nw _ _ _).al _
  have HR0 : Hid (Bk ((w.alloc (.cells #[.int .i64 num, .int .i64 D, .slice A n c] 105)).alloc (.cells #[.int .i64 0, .int .i64 0] 37)) (w.heap.size + 1) 37 #[.int .i64 0, .int .i64 0]) := Bk.nq _ _ _ (by simp)
  have HW0 : Hid (Bel w ((w.alloc (.cells #[.int .i64 num, .int .i64 D, .slice A n c] 105)).alloc (.cells #[.int .i64 0, .int .i64 0] 37))) := (Bel.rf.al _).al _
  have KS : Hid (∀ W, Bk W w.heap.size 105 #[.int .i64 num, .int .i64 D, .slice A n c] → W.cell? ⟨w.heap.size, 1, none⟩ = some (.int .i64 D)) := fun W hW => hW.cell 1
  clear bi mf w1 w2 w3 hh hah hHH hE hT ht hu
  rcases Int.lt_trichotomy (D - num) (-D) with hd | hd | hd
  · obtain rfl : h = -D := by have := HHH.out; omega
    go_enter Try.func83, Try.ntmps83
    go_upto_region 2 with fail
    obtain ⟨w1, w2, w3⟩ := HWS.out
    refine wp_region_noPanic ?_
    refine wp_region_held_drew (S := fun W : World => W.cell? ⟨w.heap.size, 1, none⟩ = some (.int .i64 D)) (by kernel_rfl) ?_ (fun hH0 => ?_)
    · (try dsimp only); exact KS.out _ (by repeat (first | exact HBB.out | exact HBA.out | exact HB0.out | (with_reducible refine Bk.drwN ?_ _) | (with_reducible refine Bk.drw ?_) | (with_reducible refine Bk.al ?_ _) | (with_reducible refine Bk.far ?_ (by dsimp only; omega) _)))
    refine wpAnyH_take (i := 0) (oi := ⟨some 17, .fieldAddr 105 (.tmp 1) 0, 0, "sketch.go:131", #[], none⟩) (v := ?_) rfl (by kernel_rfl) (by kernel_rfl) (by kernel_rfl) (fun _ _ _ h => h) (Or.inl ⟨by first | kernel_rfl | rfl, ?_⟩) (by assumption) ?_
    rotate_left
    · (intro w hSw; (try dsimp only at hSw); go_simp; try with_reducible rfl)
    try simp only [Act.put, List.setIfInBounds_toArray, List.set_cons_zero, List.set_cons_succ]
    refine wpAnyH_take (i := 1) (oi := ⟨some 18, .fieldAddr 103 (.tmp 17) 1, 0, "sketch.go:131", #[⟨0, .data⟩], none⟩) (v := ?_) rfl (by kernel_rfl) (by kernel_rfl) (by kernel_rfl) (fun _ _ _ h => h) (Or.inl ⟨by first | kernel_rfl | rfl, ?_⟩) (by assumption) ?_
    rotate_left
    · (intro w hSw; (try dsimp only at hSw); go_simp; try with_reducible rfl)
    try simp only [Act.put, List.setIfInBounds_toArray, List.set_cons_zero, List.set_cons_succ]
    refine wpAnyH_take (i := 2) (oi := ⟨some 19, .load 3 (.tmp 18), 3, "sketch.go:131", #[⟨1, .data⟩], none⟩) (v := ?_) rfl (by kernel_rfl) (by kernel_rfl) (by kernel_rfl) (fun _ _ _ h => h) (Or.inl ⟨by first | kernel_rfl | rfl, ?_⟩) (by assumption) ?_
    rotate_left
    · (intro w hSw; (try dsimp only at hSw); go_simp; try with_reducible rfl)
    try simp only [Act.put, List.setIfInBounds_toArray, List.set_cons_zero, List.set_cons_succ]
    refine wpAnyH_take (i := 3) (oi := ⟨some 20, .fieldAddr 105 (.tmp 1) 0, 0, "sketch.go:131", #[], none⟩) (v := ?_) rfl (by kernel_rfl) (by kernel_rfl) (by kernel_rfl) (fun _ _ _ h => h) (Or.inl ⟨by first | kernel_rfl | rfl, ?_⟩) (by assumption) ?_
    rotate_left
    · (intro w hSw; (try dsimp only at hSw); go_simp; try with_reducible rfl)
    try simp only [Act.put, List.setIfInBounds_toArray, List.set_cons_zero, List.set_cons_succ]
    refine wpAnyH_take (i := 4) (oi := ⟨some 21, .fieldAddr 103 (.tmp 20) 1, 0, "sketch.go:131", #[⟨3, .data⟩], none⟩) (v := ?_) rfl (by kernel_rfl) (by kernel_rfl) (by kernel_rfl) (fun _ _ _ h => h) (Or.inl ⟨by first | kernel_rfl | rfl, ?_⟩) (by assumption) ?_
    rotate_left
    · (intro w hSw; (try dsimp only at hSw); go_simp; try with_reducible rfl)
    try simp only [Act.put, List.setIfInBounds_toArray, List.set_cons_zero, List.set_cons_succ]
    refine wpAnyH_take (i := 5) (oi := ⟨some 22, .load 3 (.tmp 21), 3, "sketch.go:131", #[⟨4, .data⟩], none⟩) (v := ?_) rfl (by kernel_rfl) (by kernel_rfl) (by kernel_rfl) (fun _ _ _ h => h) (Or.inl ⟨by first | kernel_rfl | rfl, ?_⟩) (by assumption) ?_
    rotate_left
    · (intro w hSw; (try dsimp only at hSw); go_simp; try with_reducible rfl)
    try simp only [Act.put, List.setIfInBounds_toArray, List.set_cons_zero, List.set_cons_succ]
    refine wpAnyH_take (i := 6) (oi := ⟨some 23, .binOp BinOp.mul 3 (.tmp 19) (.tmp 22) 3, 3, "sketch.go:131", #[⟨2, .data⟩, ⟨5, .data⟩], none⟩) (v := ?_) rfl (by kernel_rfl) (by kernel_rfl) (by kernel_rfl) (fun _ _ _ h => h) (Or.inl ⟨by first | kernel_rfl | rfl, ?_⟩) (by assumption) ?_
    rotate_left
    · (intro w hSw; (try dsimp only at hSw); go_simp; try with_reducible rfl)
    try simp only [Act.put, List.setIfInBounds_toArray, List.set_cons_zero, List.set_cons_succ]
    refine wpAnyH_take (i := 7) (oi := ⟨some 24, .move (.tmp 4), 3, "sketch.go:131", #[], none⟩) (v := ?_) rfl (by kernel_rfl) (by kernel_rfl) (by kernel_rfl) (fun _ _ _ h => h) (Or.inl ⟨by first | kernel_rfl | rfl, ?_⟩) (by assumption) ?_
    rotate_left
    · (intro w hSw; (try dsimp only at hSw); go_simp; try with_reducible rfl)
    try simp only [Act.put, List.setIfInBounds_toArray, List.set_cons_zero, List.set_cons_succ]
    refine wpAnyH_take (i := 8) (oi := ⟨some 25, .move (.tmp 4), 3, "sketch.go:131", #[], none⟩) (v := ?_) rfl (by kernel_rfl) (by kernel_rfl) (by kernel_rfl) (fun _ _ _ h => h) (Or.inl ⟨by first | kernel_rfl | rfl, ?_⟩) (by assumption) ?_
    rotate_left
    · (intro w hSw; (try dsimp only at hSw); go_simp; try with_reducible rfl)
    try simp only [Act.put, List.setIfInBounds_toArray, List.set_cons_zero, List.set_cons_succ]
    refine wpAnyH_take (i := 12) (oi := ⟨some 29, .fieldAddr 105 (.tmp 1) 0, 0, "sketch.go:131", #[], none⟩) (v := ?_) rfl (by kernel_rfl) (by kernel_rfl) (by kernel_rfl) (fun _ _ _ h => h) (Or.inl ⟨by first | kernel_rfl | rfl, ?_⟩) (by assumption) ?_
    rotate_left
    · (intro w hSw; (try dsimp only at hSw); go_simp; try with_reducible rfl)
    try simp only [Act.put, List.setIfInBounds_toArray, List.set_cons_zero, List.set_cons_succ]
    refine wpAnyH_take (i := 13) (oi := ⟨some 30, .fieldAddr 103 (.tmp 29) 1, 0, "sketch.go:131", #[⟨12, .data⟩], none⟩) (v := ?_) rfl (by kernel_rfl) (by kernel_rfl) (by kernel_rfl) (fun _ _ _ h => h) (Or.inl ⟨by first | kernel_rfl | rfl, ?_⟩) (by assumption) ?_
    rotate_left
    · (intro w hSw; (try dsimp only at hSw); go_simp; try with_reducible rfl)
    try simp only [Act.put, List.setIfInBounds_toArray, List.set_cons_zero, List.set_cons_succ]
    refine wpAnyH_take (i := 14) (oi := ⟨some 31, .load 3 (.tmp 30), 3, "sketch.go:131", #[⟨13, .data⟩], none⟩) (v := ?_) rfl (by kernel_rfl) (by kernel_rfl) (by kernel_rfl) (fun _ _ _ h => h) (Or.inl ⟨by first | kernel_rfl | rfl, ?_⟩) (by assumption) ?_
    rotate_left
    · (intro w hSw; (try dsimp only at hSw); go_simp; try with_reducible rfl)
    try simp only [Act.put, List.setIfInBounds_toArray, List.set_cons_zero, List.set_cons_succ]
    refine wpAnyH_take (i := 15) (oi := ⟨some 32, .fieldAddr 105 (.tmp 1) 0, 0, "sketch.go:131", #[], none⟩) (v := ?_) rfl (by kernel_rfl) (by kernel_rfl) (by kernel_rfl) (fun _ _ _ h => h) (Or.inl ⟨by first | kernel_rfl | rfl, ?_⟩) (by assumption) ?_
    rotate_left
    · (intro w hSw; (try dsimp only at hSw); go_simp; try with_reducible rfl)
    try simp only [Act.put, List.setIfInBounds_toArray, List.set_cons_zero, List.set_cons_succ]
    refine wpAnyH_take (i := 16) (oi := ⟨some 33, .fieldAddr 103 (.tmp 32) 1, 0, "sketch.go:131", #[⟨15, .data⟩], none⟩) (v := ?_) rfl (by kernel_rfl) (by kernel_rfl) (by kernel_rfl) (fun _ _ _ h => h) (Or.inl ⟨by first | kernel_rfl | rfl, ?_⟩) (by assumption) ?_
    rotate_left
    · (intro w hSw; (try dsimp only at hSw); go_simp; try with_reducible rfl)
    try simp only [Act.put, List.setIfInBounds_toArray, List.set_cons_zero, List.set_cons_succ]
    refine wpAnyH_take (i := 17) (oi := ⟨some 34, .load 3 (.tmp 33), 3, "sketch.go:131", #[⟨16, .data⟩], none⟩) (v := ?_) rfl (by kernel_rfl) (by kernel_rfl) (by kernel_rfl) (fun _ _ _ h => h) (Or.inl ⟨by first | kernel_rfl | rfl, ?_⟩) (by assumption) ?_
    rotate_left
    · (intro w hSw; (try dsimp only at hSw); go_simp; try with_reducible rfl)
    try simp only [Act.put, List.setIfInBounds_toArray, List.set_cons_zero, List.set_cons_succ]
    refine wpAnyH_take (i := 18) (oi := ⟨some 35, .binOp BinOp.mul 3 (.tmp 31) (.tmp 34) 3, 3, "sketch.go:131", #[⟨14, .data⟩, ⟨17, .data⟩], none⟩) (v := ?_) rfl (by kernel_rfl) (by kernel_rfl) (by kernel_rfl) (fun _ _ _ h => h) (Or.inl ⟨by first | kernel_rfl | rfl, ?_⟩) (by assumption) ?_
    rotate_left
    · (intro w hSw; (try dsimp only at hSw); go_simp; try with_reducible rfl)
    try simp only [Act.put, List.setIfInBounds_toArray, List.set_cons_zero, List.set_cons_succ]
    refine wpAnyH_ready (rs := [9]) (by kernel_rfl) (by simp) ?_
    refine AllReadyH.cons (o := ⟨some 26, .call { callee := Callee.value (.func 111), args := #[.tmp 25], argTypes := #[3] }, 3, "sketch.go:131", #[⟨8, .data⟩], none⟩) rfl (fun K hK => ?_) AllReadyH.nil
    go_simp
    go_at_call 111; refine (AB.out _).mono ?_; rintro e wa ⟨rfl, hb⟩; have hba := Bel.tr ((by repeat (first | exact Bel.rf | (with_reducible refine Bel.drwN ?_ _) | (with_reducible refine Bel.drw ?_) | (with_reducible refine Bel.al ?_ _))) : Bel ((w.alloc (.cells #[.int .i64 num, .int .i64 D, .slice A n c] 105)).alloc (.cells #[.int .i64 0, .int .i64 0] 37)) _) hb; have HBA := Lib.hid (HB0.out.bel hba); have HRA := Lib.hid (HR0.out.bel hba); have HWA : Hid (Bel w wa) := HW0.out.tr hba; clear hb hba
    try go_wp2_with fail
    refine hK.out _ _ ?_ (fun hH1 => ?_)
    · (try dsimp only); exact KS.out _ (by repeat (first | exact HBB.out | exact HBA.out | exact HB0.out | (with_reducible refine Bk.drwN ?_ _) | (with_reducible refine Bk.drw ?_) | (with_reducible refine Bk.al ?_ _) | (with_reducible refine Bk.far ?_ (by dsimp only; omega) _)))
    clear hK K hH0
    try simp only [Act.put, List.setIfInBounds_toArray, List.set_cons_zero, List.set_cons_succ]
    refine wpAnyH_take (i := 10) (oi := ⟨some 27, .binOp BinOp.mul 3 (.tmp 24) (.tmp 26) 3, 3, "sketch.go:131", #[⟨7, .data⟩, ⟨9, .data⟩], none⟩) (v := ?_) rfl (by kernel_rfl) (by kernel_rfl) (by kernel_rfl) (fun _ _ _ h => h) (Or.inl ⟨by first | kernel_rfl | rfl, ?_⟩) (by assumption) ?_
    rotate_left
    · (intro w hSw; (try dsimp only at hSw); go_simp; try with_reducible rfl)
    try simp only [Act.put, List.setIfInBounds_toArray, List.set_cons_zero, List.set_cons_succ]
    refine wpAnyH_take (i := 11) (oi := ⟨some 28, .binOp BinOp.sub 3 (.tmp 23) (.tmp 27) 3, 3, "sketch.go:131", #[⟨6, .data⟩, ⟨10, .data⟩], none⟩) (v := ?_) rfl (by kernel_rfl) (by kernel_rfl) (by kernel_rfl) (fun _ _ _ h => h) (Or.inl ⟨by first | kernel_rfl | rfl, ?_⟩) (by assumption) ?_
    rotate_left
    · (intro w hSw; (try dsimp only at hSw); go_simp; try with_reducible rfl)
    try simp only [Act.put, List.setIfInBounds_toArray, List.set_cons_zero, List.set_cons_succ]
    refine wpAnyH_ready (rs := [19]) (by kernel_rfl) (by simp) ?_
    refine AllReadyH.cons (o := ⟨some 36, .call { callee := Callee.value (.func 54), args := #[.tmp 28, .tmp 35], argTypes := #[3, 3] }, 38, "sketch.go:131", #[⟨11, .data⟩, ⟨18, .data⟩, ⟨9, .chain⟩], none⟩) rfl (fun K hK => ?_) AllReadyH.nil
    go_simp
    go_at_call 54; refine (MK.out _).mono ?_; rintro e wb ⟨rfl, hb⟩; have hba := Bel.tr ((by repeat (first | exact Bel.rf | (with_reducible refine Bel.drwN ?_ _) | (with_reducible refine Bel.drw ?_) | (with_reducible refine Bel.al ?_ _))) : Bel wa _) hb; have HBB := Lib.hid (HBA.out.bel hba); have HRB := Lib.hid (HRA.out.bel hba); have HWB : Hid (Bel w wb) := HWA.out.tr hba; have y0 := HRB.out.cell 0; have y1 := HRB.out.cell 1; have z0 := HRB.out.fr 0; have z1 := HRB.out.fr 1; simp only [List.getElem?_toArray, List.getElem?_cons_zero, List.getElem?_cons_succ] at y0 y1; clear hb hba
    try go_wp2_with fail
    refine hK.out _ _ ?_ (fun hH2 => ?_)
    · (try dsimp only); exact KS.out _ (by repeat (first | exact HBB.out | exact HBA.out | exact HB0.out | (with_reducible refine Bk.drwN ?_ _) | (with_reducible refine Bk.drw ?_) | (with_reducible refine Bk.al ?_ _) | (with_reducible refine Bk.far ?_ (by dsimp only; omega) _)))
    clear hK K hH1
    try simp only [Act.put, List.setIfInBounds_toArray, List.set_cons_zero, List.set_cons_succ]
    refine wpAnyH_take (i := 20) (oi := ⟨some 37, .extract (.tmp 36) 0, 37, "sketch.go:131", #[⟨19, .data⟩], none⟩) (v := ?_) rfl (by kernel_rfl) (by kernel_rfl) (by kernel_rfl) (fun _ _ _ h => h) (Or.inl ⟨by first | kernel_rfl | rfl, ?_⟩) (by assumption) ?_
    rotate_left
    · (intro w hSw; (try dsimp only at hSw); go_simp; try with_reducible rfl)
    try simp only [Act.put, List.setIfInBounds_toArray, List.set_cons_zero, List.set_cons_succ]
    refine wpAnyH_take (i := 21) (oi := ⟨some 38, .extract (.tmp 36) 1, 33, "sketch.go:131", #[⟨19, .data⟩], none⟩) (v := ?_) rfl (by kernel_rfl) (by kernel_rfl) (by kernel_rfl) (fun _ _ _ h => h) (Or.inl ⟨by first | kernel_rfl | rfl, ?_⟩) (by assumption) ?_
    rotate_left
    · (intro w hSw; (try dsimp only at hSw); go_simp; try with_reducible rfl)
    try simp only [Act.put, List.setIfInBounds_toArray, List.set_cons_zero, List.set_cons_succ]
    refine wpAnyH_ready (rs := [22]) (by kernel_rfl) (by simp) ?_
    refine AllReadyH.cons (o := ⟨none, .store 37 (.tmp 2) (.tmp 37), 0, "sketch.go:131", #[⟨20, .data⟩, ⟨19, .chain⟩, ⟨0, .phase⟩, ⟨1, .phase⟩, ⟨2, .phase⟩, ⟨3, .phase⟩, ⟨4, .phase⟩, ⟨5, .phase⟩, ⟨6, .phase⟩, ⟨7, .phase⟩, ⟨8, .phase⟩, ⟨9, .phase⟩, ⟨10, .phase⟩, ⟨11, .phase⟩, ⟨12, .phase⟩, ⟨13, .phase⟩, ⟨14, .phase⟩, ⟨15, .phase⟩, ⟨16, .phase⟩, ⟨17, .phase⟩, ⟨18, .phase⟩, ⟨19, .phase⟩, ⟨20, .phase⟩, ⟨21, .phase⟩], none⟩) rfl (fun K hK => ?_) AllReadyH.nil
    go_simp
    skip
    try go_wp2_with fail
    refine hK.out _ _ ?_ (fun hH3 => ?_)
    · (try dsimp only); exact KS.out _ (by repeat (first | exact HBB.out | exact HBA.out | exact HB0.out | (with_reducible refine Bk.drwN ?_ _) | (with_reducible refine Bk.drw ?_) | (with_reducible refine Bk.al ?_ _) | (with_reducible refine Bk.far ?_ (by dsimp only; omega) _)))
    clear hK K hH2
    try simp only [Act.put, List.setIfInBounds_toArray, List.set_cons_zero, List.set_cons_succ]
    refine wpAnyH_take (i := 23) (oi := ⟨some 3, .assign (.tmp 38), 33, "sketch.go:131", #[⟨21, .data⟩, ⟨22, .chain⟩, ⟨0, .phase⟩, ⟨1, .phase⟩, ⟨2, .phase⟩, ⟨3, .phase⟩, ⟨4, .phase⟩, ⟨5, .phase⟩, ⟨6, .phase⟩, ⟨7, .phase⟩, ⟨8, .phase⟩, ⟨9, .phase⟩, ⟨10, .phase⟩, ⟨11, .phase⟩, ⟨12, .phase⟩, ⟨13, .phase⟩, ⟨14, .phase⟩, ⟨15, .phase⟩, ⟨16, .phase⟩, ⟨17, .phase⟩, ⟨18, .phase⟩, ⟨19, .phase⟩, ⟨20, .phase⟩, ⟨21, .phase⟩, ⟨22, .phase⟩], none⟩) (v := ?_) rfl (by kernel_rfl) (by kernel_rfl) (by kernel_rfl) (fun _ _ _ h => h) (Or.inl ⟨by first | kernel_rfl | rfl, ?_⟩) (by assumption) ?_
    rotate_left
    · (intro w hSw; (try dsimp only at hSw); go_simp; try with_reducible rfl)
    try simp only [Act.put, List.setIfInBounds_toArray, List.set_cons_zero, List.set_cons_succ]
    refine wpAnyH_done (by kernel_rfl) ?_ _
    refine NoPanic.normal ?_
    go_wp2_with fail
    exact bodyPost_ret (v := .tuple #[.agg #[.int .i64 t, .int .i64 u], .int .i64 0]) (results_rt Try.results83 _ _ (w.heap.size + 1) _ _ _ rfl rfl ((by repeat (first | exact (HRB.out.st 0 _).st 1 _ | (with_reducible refine Bk.drwN ?_ _) | (with_reducible refine Bk.drw ?_))))) rfl ⟨⟨t, u, rfl, HVL.out⟩, (by repeat (first | exact HWB.out | exact HWA.out | exact HW0.out | (with_reducible refine Bel.drwN ?_ _) | (with_reducible refine Bel.drw ?_) | (with_reducible refine Bel.al ?_ _) | ((with_reducible refine Bel.st2 ?_ ?_ _); (show _ ≤ _; dsimp only; omega))))⟩
  · obtain rfl : h = -D := by have := HHH.out; omega
    go_enter Try.func83, Try.ntmps83
    go_upto_region 2 with fail
    obtain ⟨w1, w2, w3⟩ := HWS.out
    refine wp_region_noPanic ?_
    refine wp_region_held_drew (S := fun W : World => W.cell? ⟨w.heap.size, 1, none⟩ = some (.int .i64 D)) (by kernel_rfl) ?_ (fun hH0 => ?_)
    · (try dsimp only); exact KS.out _ (by repeat (first | exact HBB.out | exact HBA.out | exact HB0.out | (with_reducible refine Bk.drwN ?_ _) | (with_reducible refine Bk.drw ?_) | (with_reducible refine Bk.al ?_ _) | (with_reducible refine Bk.far ?_ (by dsimp only; omega) _)))
    refine wpAnyH_take (i := 0) (oi := ⟨some 17, .fieldAddr 105 (.tmp 1) 0, 0, "sketch.go:131", #[], none⟩) (v := ?_) rfl (by kernel_rfl) (by kernel_rfl) (by kernel_rfl) (fun _ _ _ h => h) (Or.inl ⟨by first | kernel_rfl | rfl, ?_⟩) (by assumption) ?_
    rotate_left
    · (intro w hSw; (try dsimp only at hSw); go_simp; try with_reducible rfl)
    try simp only [Act.put, List.setIfInBounds_toArray, List.set_cons_zero, List.set_cons_succ]
    refine wpAnyH_take (i := 1) (oi := ⟨some 18, .fieldAddr 103 (.tmp 17) 1, 0, "sketch.go:131", #[⟨0, .data⟩], none⟩) (v := ?_) rfl (by kernel_rfl) (by kernel_rfl) (by kernel_rfl) (fun _ _ _ h => h) (Or.inl ⟨by first | kernel_rfl | rfl, ?_⟩) (by assumption) ?_
    rotate_left
    · (intro w hSw; (try dsimp only at hSw); go_simp; try with_reducible rfl)
    try simp only [Act.put, List.setIfInBounds_toArray, List.set_cons_zero, List.set_cons_succ]
    refine wpAnyH_take (i := 2) (oi := ⟨some 19, .load 3 (.tmp 18), 3, "sketch.go:131", #[⟨1, .data⟩], none⟩) (v := ?_) rfl (by kernel_rfl) (by kernel_rfl) (by kernel_rfl) (fun _ _ _ h => h) (Or.inl ⟨by first | kernel_rfl | rfl, ?_⟩) (by assumption) ?_
    rotate_left
    · (intro w hSw; (try dsimp only at hSw); go_simp; try with_reducible rfl)
    try simp only [Act.put, List.setIfInBounds_toArray, List.set_cons_zero, List.set_cons_succ]
    refine wpAnyH_take (i := 3) (oi := ⟨some 20, .fieldAddr 105 (.tmp 1) 0, 0, "sketch.go:131", #[], none⟩) (v := ?_) rfl (by kernel_rfl) (by kernel_rfl) (by kernel_rfl) (fun _ _ _ h => h) (Or.inl ⟨by first | kernel_rfl | rfl, ?_⟩) (by assumption) ?_
    rotate_left
    · (intro w hSw; (try dsimp only at hSw); go_simp; try with_reducible rfl)
    try simp only [Act.put, List.setIfInBounds_toArray, List.set_cons_zero, List.set_cons_succ]
    refine wpAnyH_take (i := 4) (oi := ⟨some 21, .fieldAddr 103 (.tmp 20) 1, 0, "sketch.go:131", #[⟨3, .data⟩], none⟩) (v := ?_) rfl (by kernel_rfl) (by kernel_rfl) (by kernel_rfl) (fun _ _ _ h => h) (Or.inl ⟨by first | kernel_rfl | rfl, ?_⟩) (by assumption) ?_
    rotate_left
    · (intro w hSw; (try dsimp only at hSw); go_simp; try with_reducible rfl)
    try simp only [Act.put, List.setIfInBounds_toArray, List.set_cons_zero, List.set_cons_succ]
    refine wpAnyH_take (i := 5) (oi := ⟨some 22, .load 3 (.tmp 21), 3, "sketch.go:131", #[⟨4, .data⟩], none⟩) (v := ?_) rfl (by kernel_rfl) (by kernel_rfl) (by kernel_rfl) (fun _ _ _ h => h) (Or.inl ⟨by first | kernel_rfl | rfl, ?_⟩) (by assumption) ?_
    rotate_left
    · (intro w hSw; (try dsimp only at hSw); go_simp; try with_reducible rfl)
    try simp only [Act.put, List.setIfInBounds_toArray, List.set_cons_zero, List.set_cons_succ]
    refine wpAnyH_take (i := 6) (oi := ⟨some 23, .binOp BinOp.mul 3 (.tmp 19) (.tmp 22) 3, 3, "sketch.go:131", #[⟨2, .data⟩, ⟨5, .data⟩], none⟩) (v := ?_) rfl (by kernel_rfl) (by kernel_rfl) (by kernel_rfl) (fun _ _ _ h => h) (Or.inl ⟨by first | kernel_rfl | rfl, ?_⟩) (by assumption) ?_
    rotate_left
    · (intro w hSw; (try dsimp only at hSw); go_simp; try with_reducible rfl)
    try simp only [Act.put, List.setIfInBounds_toArray, List.set_cons_zero, List.set_cons_succ]
    refine wpAnyH_take (i := 7) (oi := ⟨some 24, .move (.tmp 4), 3, "sketch.go:131", #[], none⟩) (v := ?_) rfl (by kernel_rfl) (by kernel_rfl) (by kernel_rfl) (fun _ _ _ h => h) (Or.inl ⟨by first | kernel_rfl | rfl, ?_⟩) (by assumption) ?_
    rotate_left
    · (intro w hSw; (try dsimp only at hSw); go_simp; try with_reducible rfl)
    try simp only [Act.put, List.setIfInBounds_toArray, List.set_cons_zero, List.set_cons_succ]
    refine wpAnyH_take (i := 8) (oi := ⟨some 25, .move (.tmp 4), 3, "sketch.go:131", #[], none⟩) (v := ?_) rfl (by kernel_rfl) (by kernel_rfl) (by kernel_rfl) (fun _ _ _ h => h) (Or.inl ⟨by first | kernel_rfl | rfl, ?_⟩) (by assumption) ?_
    rotate_left
    · (intro w hSw; (try dsimp only at hSw); go_simp; try with_reducible rfl)
    try simp only [Act.put, List.setIfInBounds_toArray, List.set_cons_zero, List.set_cons_succ]
    refine wpAnyH_take (i := 12) (oi := ⟨some 29, .fieldAddr 105 (.tmp 1) 0, 0, "sketch.go:131", #[], none⟩) (v := ?_) rfl (by kernel_rfl) (by kernel_rfl) (by kernel_rfl) (fun _ _ _ h => h) (Or.inl ⟨by first | kernel_rfl | rfl, ?_⟩) (by assumption) ?_
    rotate_left
    · (intro w hSw; (try dsimp only at hSw); go_simp; try with_reducible rfl)
    try simp only [Act.put, List.setIfInBounds_toArray, List.set_cons_zero, List.set_cons_succ]
    refine wpAnyH_take (i := 13) (oi := ⟨some 30, .fieldAddr 103 (.tmp 29) 1, 0, "sketch.go:131", #[⟨12, .data⟩], none⟩) (v := ?_) rfl (by kernel_rfl) (by kernel_rfl) (by kernel_rfl) (fun _ _ _ h => h) (Or.inl ⟨by first | kernel_rfl | rfl, ?_⟩) (by assumption) ?_
    rotate_left
    · (intro w hSw; (try dsimp only at hSw); go_simp; try with_reducible rfl)
    try simp only [Act.put, List.setIfInBounds_toArray, List.set_cons_zero, List.set_cons_succ]
    refine wpAnyH_take (i := 14) (oi := ⟨some 31, .load 3 (.tmp 30), 3, "sketch.go:131", #[⟨13, .data⟩], none⟩) (v := ?_) rfl (by kernel_rfl) (by kernel_rfl) (by kernel_rfl) (fun _ _ _ h => h) (Or.inl ⟨by first | kernel_rfl | rfl, ?_⟩) (by assumption) ?_
    rotate_left
    · (intro w hSw; (try dsimp only at hSw); go_simp; try with_reducible rfl)
    try simp only [Act.put, List.setIfInBounds_toArray, List.set_cons_zero, List.set_cons_succ]
    refine wpAnyH_take (i := 15) (oi := ⟨some 32, .fieldAddr 105 (.tmp 1) 0, 0, "sketch.go:131", #[], none⟩) (v := ?_) rfl (by kernel_rfl) (by kernel_rfl) (by kernel_rfl) (fun _ _ _ h => h) (Or.inl ⟨by first | kernel_rfl | rfl, ?_⟩) (by assumption) ?_
    rotate_left
    · (intro w hSw; (try dsimp only at hSw); go_simp; try with_reducible rfl)
    try simp only [Act.put, List.setIfInBounds_toArray, List.set_cons_zero, List.set_cons_succ]
    refine wpAnyH_take (i := 16) (oi := ⟨some 33, .fieldAddr 103 (.tmp 32) 1, 0, "sketch.go:131", #[⟨15, .data⟩], none⟩) (v := ?_) rfl (by kernel_rfl) (by kernel_rfl) (by kernel_rfl) (fun _ _ _ h => h) (Or.inl ⟨by first | kernel_rfl | rfl, ?_⟩) (by assumption) ?_
    rotate_left
    · (intro w hSw; (try dsimp only at hSw); go_simp; try with_reducible rfl)
    try simp only [Act.put, List.setIfInBounds_toArray, List.set_cons_zero, List.set_cons_succ]
    refine wpAnyH_take (i := 17) (oi := ⟨some 34, .load 3 (.tmp 33), 3, "sketch.go:131", #[⟨16, .data⟩], none⟩) (v := ?_) rfl (by kernel_rfl) (by kernel_rfl) (by kernel_rfl) (fun _ _ _ h => h) (Or.inl ⟨by first | kernel_rfl | rfl, ?_⟩) (by assumption) ?_
    rotate_left
    · (intro w hSw; (try dsimp only at hSw); go_simp; try with_reducible rfl)
    try simp only [Act.put, List.setIfInBounds_toArray, List.set_cons_zero, List.set_cons_succ]
    refine wpAnyH_take (i := 18) (oi := ⟨some 35, .binOp BinOp.mul 3 (.tmp 31) (.tmp 34) 3, 3, "sketch.go:131", #[⟨14, .data⟩, ⟨17, .data⟩], none⟩) (v := ?_) rfl (by kernel_rfl) (by kernel_rfl) (by kernel_rfl) (fun _ _ _ h => h) (Or.inl ⟨by first | kernel_rfl | rfl, ?_⟩) (by assumption) ?_
    rotate_left
    · (intro w hSw; (try dsimp only at hSw); go_simp; try with_reducible rfl)
    try simp only [Act.put, List.setIfInBounds_toArray, List.set_cons_zero, List.set_cons_succ]
    refine wpAnyH_ready (rs := [9]) (by kernel_rfl) (by simp) ?_
    refine AllReadyH.cons (o := ⟨some 26, .call { callee := Callee.value (.func 111), args := #[.tmp 25], argTypes := #[3] }, 3, "sketch.go:131", #[⟨8, .data⟩], none⟩) rfl (fun K hK => ?_) AllReadyH.nil
    go_simp
    go_at_call 111; refine (AB.out _).mono ?_; rintro e wa ⟨rfl, hb⟩; have hba := Bel.tr ((by repeat (first | exact Bel.rf | (with_reducible refine Bel.drwN ?_ _) | (with_reducible refine Bel.drw ?_) | (with_reducible refine Bel.al ?_ _))) : Bel ((w.alloc (.cells #[.int .i64 num, .int .i64 D, .slice A n c] 105)).alloc (.cells #[.int .i64 0, .int .i64 0] 37)) _) hb; have HBA := Lib.hid (HB0.out.bel hba); have HRA := Lib.hid (HR0.out.bel hba); have HWA : Hid (Bel w wa) := HW0.out.tr hba; clear hb hba
    try go_wp2_with fail
    refine hK.out _ _ ?_ (fun hH1 => ?_)
    · (try dsimp only); exact KS.out _ (by repeat (first | exact HBB.out | exact HBA.out | exact HB0.out | (with_reducible refine Bk.drwN ?_ _) | (with_reducible refine Bk.drw ?_) | (with_reducible refine Bk.al ?_ _) | (with_reducible refine Bk.far ?_ (by dsimp only; omega) _)))
    clear hK K hH0
    try simp only [Act.put, List.setIfInBounds_toArray, List.set_cons_zero, List.set_cons_succ]
    refine wpAnyH_take (i := 10) (oi := ⟨some 27, .binOp BinOp.mul 3 (.tmp 24) (.tmp 26) 3, 3, "sketch.go:131", #[⟨7, .data⟩, ⟨9, .data⟩], none⟩) (v := ?_) rfl (by kernel_rfl) (by kernel_rfl) (by kernel_rfl) (fun _ _ _ h => h) (Or.inl ⟨by first | kernel_rfl | rfl, ?_⟩) (by assumption) ?_
    rotate_left
    · (intro w hSw; (try dsimp only at hSw); go_simp; try with_reducible rfl)
    try simp only [Act.put, List.setIfInBounds_toArray, List.set_cons_zero, List.set_cons_succ]
    refine wpAnyH_take (i := 11) (oi := ⟨some 28, .binOp BinOp.sub 3 (.tmp 23) (.tmp 27) 3, 3, "sketch.go:131", #[⟨6, .data⟩, ⟨10, .data⟩], none⟩) (v := ?_) rfl (by kernel_rfl) (by kernel_rfl) (by kernel_rfl) (fun _ _ _ h => h) (Or.inl ⟨by first | kernel_rfl | rfl, ?_⟩) (by assumption) ?_
    rotate_left
    · (intro w hSw; (try dsimp only at hSw); go_simp; try with_reducible rfl)
    try simp only [Act.put, List.setIfInBounds_toArray, List.set_cons_zero, List.set_cons_succ]
    refine wpAnyH_ready (rs := [19]) (by kernel_rfl) (by simp) ?_
    refine AllReadyH.cons (o := ⟨some 36, .call { callee := Callee.value (.func 54), args := #[.tmp 28, .tmp 35], argTypes := #[3, 3] }, 38, "sketch.go:131", #[⟨11, .data⟩, ⟨18, .data⟩, ⟨9, .chain⟩], none⟩) rfl (fun K hK => ?_) AllReadyH.nil
    go_simp
    go_at_call 54; refine (MK.out _).mono ?_; rintro e wb ⟨rfl, hb⟩; have hba := Bel.tr ((by repeat (first | exact Bel.rf | (with_reducible refine Bel.drwN ?_ _) | (with_reducible refine Bel.drw ?_) | (with_reducible refine Bel.al ?_ _))) : Bel wa _) hb; have HBB := Lib.hid (HBA.out.bel hba); have HRB := Lib.hid (HRA.out.bel hba); have HWB : Hid (Bel w wb) := HWA.out.tr hba; have y0 := HRB.out.cell 0; have y1 := HRB.out.cell 1; have z0 := HRB.out.fr 0; have z1 := HRB.out.fr 1; simp only [List.getElem?_toArray, List.getElem?_cons_zero, List.getElem?_cons_succ] at y0 y1; clear hb hba
    try go_wp2_with fail
    refine hK.out _ _ ?_ (fun hH2 => ?_)
    · (try dsimp only); exact KS.out _ (by repeat (first | exact HBB.out | exact HBA.out | exact HB0.out | (with_reducible refine Bk.drwN ?_ _) | (with_reducible refine Bk.drw ?_) | (with_reducible refine Bk.al ?_ _) | (with_reducible refine Bk.far ?_ (by dsimp only; omega) _)))
    clear hK K hH1
    try simp only [Act.put, List.setIfInBounds_toArray, List.set_cons_zero, List.set_cons_succ]
    refine wpAnyH_take (i := 20) (oi := ⟨some 37, .extract (.tmp 36) 0, 37, "sketch.go:131", #[⟨19, .data⟩], none⟩) (v := ?_) rfl (by kernel_rfl) (by kernel_rfl) (by kernel_rfl) (fun _ _ _ h => h) (Or.inl ⟨by first | kernel_rfl | rfl, ?_⟩) (by assumption) ?_
    rotate_left
    · (intro w hSw; (try dsimp only at hSw); go_simp; try with_reducible rfl)
    try simp only [Act.put, List.setIfInBounds_toArray, List.set_cons_zero, List.set_cons_succ]
    refine wpAnyH_take (i := 21) (oi := ⟨some 38, .extract (.tmp 36) 1, 33, "sketch.go:131", #[⟨19, .data⟩], none⟩) (v := ?_) rfl (by kernel_rfl) (by kernel_rfl) (by kernel_rfl) (fun _ _ _ h => h) (Or.inl ⟨by first | kernel_rfl | rfl, ?_⟩) (by assumption) ?_
    rotate_left
    · (intro w hSw; (try dsimp only at hSw); go_simp; try with_reducible rfl)
    try simp only [Act.put, List.setIfInBounds_toArray, List.set_cons_zero, List.set_cons_succ]
    refine wpAnyH_ready (rs := [22]) (by kernel_rfl) (by simp) ?_
    refine AllReadyH.cons (o := ⟨none, .store 37 (.tmp 2) (.tmp 37), 0, "sketch.go:131", #[⟨20, .data⟩, ⟨19, .chain⟩, ⟨0, .phase⟩, ⟨1, .phase⟩, ⟨2, .phase⟩, ⟨3, .phase⟩, ⟨4, .phase⟩, ⟨5, .phase⟩, ⟨6, .phase⟩, ⟨7, .phase⟩, ⟨8, .phase⟩, ⟨9, .phase⟩, ⟨10, .phase⟩, ⟨11, .phase⟩, ⟨12, .phase⟩, ⟨13, .phase⟩, ⟨14, .phase⟩, ⟨15, .phase⟩, ⟨16, .phase⟩, ⟨17, .phase⟩, ⟨18, .phase⟩, ⟨19, .phase⟩, ⟨20, .phase⟩, ⟨21, .phase⟩], none⟩) rfl (fun K hK => ?_) AllReadyH.nil
    go_simp
    skip
    try go_wp2_with fail
    refine hK.out _ _ ?_ (fun hH3 => ?_)
    · (try dsimp only); exact KS.out _ (by repeat (first | exact HBB.out | exact HBA.out | exact HB0.out | (with_reducible refine Bk.drwN ?_ _) | (with_reducible refine Bk.drw ?_) | (with_reducible refine Bk.al ?_ _) | (with_reducible refine Bk.far ?_ (by dsimp only; omega) _)))
    clear hK K hH2
    try simp only [Act.put, List.setIfInBounds_toArray, List.set_cons_zero, List.set_cons_succ]
    refine wpAnyH_take (i := 23) (oi := ⟨some 3, .assign (.tmp 38), 33, "sketch.go:131", #[⟨21, .data⟩, ⟨22, .chain⟩, ⟨0, .phase⟩, ⟨1, .phase⟩, ⟨2, .phase⟩, ⟨3, .phase⟩, ⟨4, .phase⟩, ⟨5, .phase⟩, ⟨6, .phase⟩, ⟨7, .phase⟩, ⟨8, .phase⟩, ⟨9, .phase⟩, ⟨10, .phase⟩, ⟨11, .phase⟩, ⟨12, .phase⟩, ⟨13, .phase⟩, ⟨14, .phase⟩, ⟨15, .phase⟩, ⟨16, .phase⟩, ⟨17, .phase⟩, ⟨18, .phase⟩, ⟨19, .phase⟩, ⟨20, .phase⟩, ⟨21, .phase⟩, ⟨22, .phase⟩], none⟩) (v := ?_) rfl (by kernel_rfl) (by kernel_rfl) (by kernel_rfl) (fun _ _ _ h => h) (Or.inl ⟨by first | kernel_rfl | rfl, ?_⟩) (by assumption) ?_
    rotate_left
    · (intro w hSw; (try dsimp only at hSw); go_simp; try with_reducible rfl)
    try simp only [Act.put, List.setIfInBounds_toArray, List.set_cons_zero, List.set_cons_succ]
    refine wpAnyH_done (by kernel_rfl) ?_ _
    refine NoPanic.normal ?_
    go_wp2_with fail
    exact bodyPost_ret (v := .tuple #[.agg #[.int .i64 t, .int .i64 u], .int .i64 0]) (results_rt Try.results83 _ _ (w.heap.size + 1) _ _ _ rfl rfl ((by repeat (first | exact (HRB.out.st 0 _).st 1 _ | (with_reducible refine Bk.drwN ?_ _) | (with_reducible refine Bk.drw ?_))))) rfl ⟨⟨t, u, rfl, HVL.out⟩, (by repeat (first | exact HWB.out | exact HWA.out | exact HW0.out | (with_reducible refine Bel.drwN ?_ _) | (with_reducible refine Bel.drw ?_) | (with_reducible refine Bel.al ?_ _) | ((with_reducible refine Bel.st2 ?_ ?_ _); (show _ ≤ _; dsimp only; omega))))⟩
  · have hq : h = D - num := by have := HHH.out; omega
    subst hq
    go_enter Try.func83, Try.ntmps83
    go_upto_region 2 with fail
    obtain ⟨w1, w2, w3⟩ := HWS.out
    refine wp_region_noPanic ?_
    refine wp_region_held_drew (S := fun W : World => W.cell? ⟨w.heap.size, 1, none⟩ = some (.int .i64 D)) (by kernel_rfl) ?_ (fun hH0 => ?_)
    · (try dsimp only); exact KS.out _ (by repeat (first | exact HBB.out | exact HBA.out | exact HB0.out | (with_reducible refine Bk.drwN ?_ _) | (with_reducible refine Bk.drw ?_) | (with_reducible refine Bk.al ?_ _) | (with_reducible refine Bk.far ?_ (by dsimp only; omega) _)))
    refine wpAnyH_take (i := 0) (oi := ⟨some 17, .fieldAddr 105 (.tmp 1) 0, 0, "sketch.go:131", #[], none⟩) (v := ?_) rfl (by kernel_rfl) (by kernel_rfl) (by kernel_rfl) (fun _ _ _ h => h) (Or.inl ⟨by first | kernel_rfl | rfl, ?_⟩) (by assumption) ?_
    rotate_left
    · (intro w hSw; (try dsimp only at hSw); go_simp; try with_reducible rfl)
    try simp only [Act.put, List.setIfInBounds_toArray, List.set_cons_zero, List.set_cons_succ]
    refine wpAnyH_take (i := 1) (oi := ⟨some 18, .fieldAddr 103 (.tmp 17) 1, 0, "sketch.go:131", #[⟨0, .data⟩], none⟩) (v := ?_) rfl (by kernel_rfl) (by kernel_rfl) (by kernel_rfl) (fun _ _ _ h => h) (Or.inl ⟨by first | kernel_rfl | rfl, ?_⟩) (by assumption) ?_
    rotate_left
    · (intro w hSw; (try dsimp only at hSw); go_simp; try with_reducible rfl)
    try simp only [Act.put, List.setIfInBounds_toArray, List.set_cons_zero, List.set_cons_succ]
    refine wpAnyH_take (i := 2) (oi := ⟨some 19, .load 3 (.tmp 18), 3, "sketch.go:131", #[⟨1, .data⟩], none⟩) (v := ?_) rfl (by kernel_rfl) (by kernel_rfl) (by kernel_rfl) (fun _ _ _ h => h) (Or.inl ⟨by first | kernel_rfl | rfl, ?_⟩) (by assumption) ?_
    rotate_left
    · (intro w hSw; (try dsimp only at hSw); go_simp; try with_reducible rfl)
    try simp only [Act.put, List.setIfInBounds_toArray, List.set_cons_zero, List.set_cons_succ]
    refine wpAnyH_take (i := 3) (oi := ⟨some 20, .fieldAddr 105 (.tmp 1) 0, 0, "sketch.go:131", #[], none⟩) (v := ?_) rfl (by kernel_rfl) (by kernel_rfl) (by kernel_rfl) (fun _ _ _ h => h) (Or.inl ⟨by first | kernel_rfl | rfl, ?_⟩) (by assumption) ?_
    rotate_left
    · (intro w hSw; (try dsimp only at hSw); go_simp; try with_reducible rfl)
    try simp only [Act.put, List.setIfInBounds_toArray, List.set_cons_zero, List.set_cons_succ]
    refine wpAnyH_take (i := 4) (oi := ⟨some 21, .fieldAddr 103 (.tmp 20) 1, 0, "sketch.go:131", #[⟨3, .data⟩], none⟩) (v := ?_) rfl (by kernel_rfl) (by kernel_rfl) (by kernel_rfl) (fun _ _ _ h => h) (Or.inl ⟨by first | kernel_rfl | rfl, ?_⟩) (by assumption) ?_
    rotate_left
    · (intro w hSw; (try dsimp only at hSw); go_simp; try with_reducible rfl)
    try simp only [Act.put, List.setIfInBounds_toArray, List.set_cons_zero, List.set_cons_succ]
    refine wpAnyH_take (i := 5) (oi := ⟨some 22, .load 3 (.tmp 21), 3, "sketch.go:131", #[⟨4, .data⟩], none⟩) (v := ?_) rfl (by kernel_rfl) (by kernel_rfl) (by kernel_rfl) (fun _ _ _ h => h) (Or.inl ⟨by first | kernel_rfl | rfl, ?_⟩) (by assumption) ?_
    rotate_left
    · (intro w hSw; (try dsimp only at hSw); go_simp; try with_reducible rfl)
    try simp only [Act.put, List.setIfInBounds_toArray, List.set_cons_zero, List.set_cons_succ]
    refine wpAnyH_take (i := 6) (oi := ⟨some 23, .binOp BinOp.mul 3 (.tmp 19) (.tmp 22) 3, 3, "sketch.go:131", #[⟨2, .data⟩, ⟨5, .data⟩], none⟩) (v := ?_) rfl (by kernel_rfl) (by kernel_rfl) (by kernel_rfl) (fun _ _ _ h => h) (Or.inl ⟨by first | kernel_rfl | rfl, ?_⟩) (by assumption) ?_
    rotate_left
    · (intro w hSw; (try dsimp only at hSw); go_simp; try with_reducible rfl)
    try simp only [Act.put, List.setIfInBounds_toArray, List.set_cons_zero, List.set_cons_succ]
    refine wpAnyH_take (i := 7) (oi := ⟨some 24, .move (.tmp 4), 3, "sketch.go:131", #[], none⟩) (v := ?_) rfl (by kernel_rfl) (by kernel_rfl) (by kernel_rfl) (fun _ _ _ h => h) (Or.inl ⟨by first | kernel_rfl | rfl, ?_⟩) (by assumption) ?_
    rotate_left
    · (intro w hSw; (try dsimp only at hSw); go_simp; try with_reducible rfl)
    try simp only [Act.put, List.setIfInBounds_toArray, List.set_cons_zero, List.set_cons_succ]
    refine wpAnyH_take (i := 8) (oi := ⟨some 25, .move (.tmp 4), 3, "sketch.go:131", #[], none⟩) (v := ?_) rfl (by kernel_rfl) (by kernel_rfl) (by kernel_rfl) (fun _ _ _ h => h) (Or.inl ⟨by first | kernel_rfl | rfl, ?_⟩) (by assumption) ?_
    rotate_left
    · (intro w hSw; (try dsimp only at hSw); go_simp; try with_reducible rfl)
    try simp only [Act.put, List.setIfInBounds_toArray, List.set_cons_zero, List.set_cons_succ]
    refine wpAnyH_take (i := 12) (oi := ⟨some 29, .fieldAddr 105 (.tmp 1) 0, 0, "sketch.go:131", #[], none⟩) (v := ?_) rfl (by kernel_rfl) (by kernel_rfl) (by kernel_rfl) (fun _ _ _ h => h) (Or.inl ⟨by first | kernel_rfl | rfl, ?_⟩) (by assumption) ?_
    rotate_left
    · (intro w hSw; (try dsimp only at hSw); go_simp; try with_reducible rfl)
    try simp only [Act.put, List.setIfInBounds_toArray, List.set_cons_zero, List.set_cons_succ]
    refine wpAnyH_take (i := 13) (oi := ⟨some 30, .fieldAddr 103 (.tmp 29) 1, 0, "sketch.go:131", #[⟨12, .data⟩], none⟩) (v := ?_) rfl (by kernel_rfl) (by kernel_rfl) (by kernel_rfl) (fun _ _ _ h => h) (Or.inl ⟨by first | kernel_rfl | rfl, ?_⟩) (by assumption) ?_
    rotate_left
    · (intro w hSw; (try dsimp only at hSw); go_simp; try with_reducible rfl)
    try simp only [Act.put, List.setIfInBounds_toArray, List.set_cons_zero, List.set_cons_succ]
    refine wpAnyH_take (i := 14) (oi := ⟨some 31, .load 3 (.tmp 30), 3, "sketch.go:131", #[⟨13, .data⟩], none⟩) (v := ?_) rfl (by kernel_rfl) (by kernel_rfl) (by kernel_rfl) (fun _ _ _ h => h) (Or.inl ⟨by first | kernel_rfl | rfl, ?_⟩) (by assumption) ?_
    rotate_left
    · (intro w hSw; (try dsimp only at hSw); go_simp; try with_reducible rfl)
    try simp only [Act.put, List.setIfInBounds_toArray, List.set_cons_zero, List.set_cons_succ]
    refine wpAnyH_take (i := 15) (oi := ⟨some 32, .fieldAddr 105 (.tmp 1) 0, 0, "sketch.go:131", #[], none⟩) (v := ?_) rfl (by kernel_rfl) (by kernel_rfl) (by kernel_rfl) (fun _ _ _ h => h) (Or.inl ⟨by first | kernel_rfl | rfl, ?_⟩) (by assumption) ?_
    rotate_left
    · (intro w hSw; (try dsimp only at hSw); go_simp; try with_reducible rfl)
    try simp only [Act.put, List.setIfInBounds_toArray, List.set_cons_zero, List.set_cons_succ]
    refine wpAnyH_take (i := 16) (oi := ⟨some 33, .fieldAddr 103 (.tmp 32) 1, 0, "sketch.go:131", #[⟨15, .data⟩], none⟩) (v := ?_) rfl (by kernel_rfl) (by kernel_rfl) (by kernel_rfl) (fun _ _ _ h => h) (Or.inl ⟨by first | kernel_rfl | rfl, ?_⟩) (by assumption) ?_
    rotate_left
    · (intro w hSw; (try dsimp only at hSw); go_simp; try with_reducible rfl)
    try simp only [Act.put, List.setIfInBounds_toArray, List.set_cons_zero, List.set_cons_succ]
    refine wpAnyH_take (i := 17) (oi := ⟨some 34, .load 3 (.tmp 33), 3, "sketch.go:131", #[⟨16, .data⟩], none⟩) (v := ?_) rfl (by kernel_rfl) (by kernel_rfl) (by kernel_rfl) (fun _ _ _ h => h) (Or.inl ⟨by first | kernel_rfl | rfl, ?_⟩) (by assumption) ?_
    rotate_left
    · (intro w hSw; (try dsimp only at hSw); go_simp; try with_reducible rfl)
    try simp only [Act.put, List.setIfInBounds_toArray, List.set_cons_zero, List.set_cons_succ]
    refine wpAnyH_take (i := 18) (oi := ⟨some 35, .binOp BinOp.mul 3 (.tmp 31) (.tmp 34) 3, 3, "sketch.go:131", #[⟨14, .data⟩, ⟨17, .data⟩], none⟩) (v := ?_) rfl (by kernel_rfl) (by kernel_rfl) (by kernel_rfl) (fun _ _ _ h => h) (Or.inl ⟨by first | kernel_rfl | rfl, ?_⟩) (by assumption) ?_
    rotate_left
    · (intro w hSw; (try dsimp only at hSw); go_simp; try with_reducible rfl)
    try simp only [Act.put, List.setIfInBounds_toArray, List.set_cons_zero, List.set_cons_succ]
    refine wpAnyH_ready (rs := [9]) (by kernel_rfl) (by simp) ?_
    refine AllReadyH.cons (o := ⟨some 26, .call { callee := Callee.value (.func 111), args := #[.tmp 25], argTypes := #[3] }, 3, "sketch.go:131", #[⟨8, .data⟩], none⟩) rfl (fun K hK => ?_) AllReadyH.nil
    go_simp
    go_at_call 111; refine (AB.out _).mono ?_; rintro e wa ⟨rfl, hb⟩; have hba := Bel.tr ((by repeat (first | exact Bel.rf | (with_reducible refine Bel.drwN ?_ _) | (with_reducible refine Bel.drw ?_) | (with_reducible refine Bel.al ?_ _))) : Bel ((w.alloc (.cells #[.int .i64 num, .int .i64 D, .slice A n c] 105)).alloc (.cells #[.int .i64 0, .int .i64 0] 37)) _) hb; have HBA := Lib.hid (HB0.out.bel hba); have HRA := Lib.hid (HR0.out.bel hba); have HWA : Hid (Bel w wa) := HW0.out.tr hba; clear hb hba
    try go_wp2_with fail
    refine hK.out _ _ ?_ (fun hH1 => ?_)
    · (try dsimp only); exact KS.out _ (by repeat (first | exact HBB.out | exact HBA.out | exact HB0.out | (with_reducible refine Bk.drwN ?_ _) | (with_reducible refine Bk.drw ?_) | (with_reducible refine Bk.al ?_ _) | (with_reducible refine Bk.far ?_ (by dsimp only; omega) _)))
    clear hK K hH0
    try simp only [Act.put, List.setIfInBounds_toArray, List.set_cons_zero, List.set_cons_succ]
    refine wpAnyH_take (i := 10) (oi := ⟨some 27, .binOp BinOp.mul 3 (.tmp 24) (.tmp 26) 3, 3, "sketch.go:131", #[⟨7, .data⟩, ⟨9, .data⟩], none⟩) (v := ?_) rfl (by kernel_rfl) (by kernel_rfl) (by kernel_rfl) (fun _ _ _ h => h) (Or.inl ⟨by first | kernel_rfl | rfl, ?_⟩) (by assumption) ?_
    rotate_left
    · (intro w hSw; (try dsimp only at hSw); go_simp; try with_reducible rfl)
    try simp only [Act.put, List.setIfInBounds_toArray, List.set_cons_zero, List.set_cons_succ]
    refine wpAnyH_take (i := 11) (oi := ⟨some 28, .binOp BinOp.sub 3 (.tmp 23) (.tmp 27) 3, 3, "sketch.go:131", #[⟨6, .data⟩, ⟨10, .data⟩], none⟩) (v := ?_) rfl (by kernel_rfl) (by kernel_rfl) (by kernel_rfl) (fun _ _ _ h => h) (Or.inl ⟨by first | kernel_rfl | rfl, ?_⟩) (by assumption) ?_
    rotate_left
    · (intro w hSw; (try dsimp only at hSw); go_simp; try with_reducible rfl)
    try simp only [Act.put, List.setIfInBounds_toArray, List.set_cons_zero, List.set_cons_succ]
    refine wpAnyH_ready (rs := [19]) (by kernel_rfl) (by simp) ?_
    refine AllReadyH.cons (o := ⟨some 36, .call { callee := Callee.value (.func 54), args := #[.tmp 28, .tmp 35], argTypes := #[3, 3] }, 38, "sketch.go:131", #[⟨11, .data⟩, ⟨18, .data⟩, ⟨9, .chain⟩], none⟩) rfl (fun K hK => ?_) AllReadyH.nil
    go_simp
    go_at_call 54; refine (MK.out _).mono ?_; rintro e wb ⟨rfl, hb⟩; have hba := Bel.tr ((by repeat (first | exact Bel.rf | (with_reducible refine Bel.drwN ?_ _) | (with_reducible refine Bel.drw ?_) | (with_reducible refine Bel.al ?_ _))) : Bel wa _) hb; have HBB := Lib.hid (HBA.out.bel hba); have HRB := Lib.hid (HRA.out.bel hba); have HWB : Hid (Bel w wb) := HWA.out.tr hba; have y0 := HRB.out.cell 0; have y1 := HRB.out.cell 1; have z0 := HRB.out.fr 0; have z1 := HRB.out.fr 1; simp only [List.getElem?_toArray, List.getElem?_cons_zero, List.getElem?_cons_succ] at y0 y1; clear hb hba
    try go_wp2_with fail
    refine hK.out _ _ ?_ (fun hH2 => ?_)
    · (try dsimp only); exact KS.out _ (by repeat (first | exact HBB.out | exact HBA.out | exact HB0.out | (with_reducible refine Bk.drwN ?_ _) | (with_reducible refine Bk.drw ?_) | (with_reducible refine Bk.al ?_ _) | (with_reducible refine Bk.far ?_ (by dsimp only; omega) _)))
    clear hK K hH1
    try simp only [Act.put, List.setIfInBounds_toArray, List.set_cons_zero, List.set_cons_succ]
    refine wpAnyH_take (i := 20) (oi := ⟨some 37, .extract (.tmp 36) 0, 37, "sketch.go:131", #[⟨19, .data⟩], none⟩) (v := ?_) rfl (by kernel_rfl) (by kernel_rfl) (by kernel_rfl) (fun _ _ _ h => h) (Or.inl ⟨by first | kernel_rfl | rfl, ?_⟩) (by assumption) ?_
    rotate_left
    · (intro w hSw; (try dsimp only at hSw); go_simp; try with_reducible rfl)
    try simp only [Act.put, List.setIfInBounds_toArray, List.set_cons_zero, List.set_cons_succ]
    refine wpAnyH_take (i := 21) (oi := ⟨some 38, .extract (.tmp 36) 1, 33, "sketch.go:131", #[⟨19, .data⟩], none⟩) (v := ?_) rfl (by kernel_rfl) (by kernel_rfl) (by kernel_rfl) (fun _ _ _ h => h) (Or.inl ⟨by first | kernel_rfl | rfl, ?_⟩) (by assumption) ?_
    rotate_left
    · (intro w hSw; (try dsimp only at hSw); go_simp; try with_reducible rfl)
    try simp only [Act.put, List.setIfInBounds_toArray, List.set_cons_zero, List.set_cons_succ]
    refine wpAnyH_ready (rs := [22]) (by kernel_rfl) (by simp) ?_
    refine AllReadyH.cons (o := ⟨none, .store 37 (.tmp 2) (.tmp 37), 0, "sketch.go:131", #[⟨20, .data⟩, ⟨19, .chain⟩, ⟨0, .phase⟩, ⟨1, .phase⟩, ⟨2, .phase⟩, ⟨3, .phase⟩, ⟨4, .phase⟩, ⟨5, .phase⟩, ⟨6, .phase⟩, ⟨7, .phase⟩, ⟨8, .phase⟩, ⟨9, .phase⟩, ⟨10, .phase⟩, ⟨11, .phase⟩, ⟨12, .phase⟩, ⟨13, .phase⟩, ⟨14, .phase⟩, ⟨15, .phase⟩, ⟨16, .phase⟩, ⟨17, .phase⟩, ⟨18, .phase⟩, ⟨19, .phase⟩, ⟨20, .phase⟩, ⟨21, .phase⟩], none⟩) rfl (fun K hK => ?_) AllReadyH.nil
    go_simp
    skip
    try go_wp2_with fail
    refine hK.out _ _ ?_ (fun hH3 => ?_)
    · (try dsimp only); exact KS.out _ (by repeat (first | exact HBB.out | exact HBA.out | exact HB0.out | (with_reducible refine Bk.drwN ?_ _) | (with_reducible refine Bk.drw ?_) | (with_reducible refine Bk.al ?_ _) | (with_reducible refine Bk.far ?_ (by dsimp only; omega) _)))
    clear hK K hH2
    try simp only [Act.put, List.setIfInBounds_toArray, List.set_cons_zero, List.set_cons_succ]
    refine wpAnyH_take (i := 23) (oi := ⟨some 3, .assign (.tmp 38), 33, "sketch.go:131", #[⟨21, .data⟩, ⟨22, .chain⟩, ⟨0, .phase⟩, ⟨1, .phase⟩, ⟨2, .phase⟩, ⟨3, .phase⟩, ⟨4, .phase⟩, ⟨5, .phase⟩, ⟨6, .phase⟩, ⟨7, .phase⟩, ⟨8, .phase⟩, ⟨9, .phase⟩, ⟨10, .phase⟩, ⟨11, .phase⟩, ⟨12, .phase⟩, ⟨13, .phase⟩, ⟨14, .phase⟩, ⟨15, .phase⟩, ⟨16, .phase⟩, ⟨17, .phase⟩, ⟨18, .phase⟩, ⟨19, .phase⟩, ⟨20, .phase⟩, ⟨21, .phase⟩, ⟨22, .phase⟩], none⟩) (v := ?_) rfl (by kernel_rfl) (by kernel_rfl) (by kernel_rfl) (fun _ _ _ h => h) (Or.inl ⟨by first | kernel_rfl | rfl, ?_⟩) (by assumption) ?_
    rotate_left
    · (intro w hSw; (try dsimp only at hSw); go_simp; try with_reducible rfl)
    try simp only [Act.put, List.setIfInBounds_toArray, List.set_cons_zero, List.set_cons_succ]
    refine wpAnyH_done (by kernel_rfl) ?_ _
    refine NoPanic.normal ?_
    go_wp2_with fail
    exact bodyPost_ret (v := .tuple #[.agg #[.int .i64 t, .int .i64 u], .int .i64 0]) (results_rt Try.results83 _ _ (w.heap.size + 1) _ _ _ rfl rfl ((by repeat (first | exact (HRB.out.st 0 _).st 1 _ | (with_reducible refine Bk.drwN ?_ _) | (with_reducible refine Bk.drw ?_))))) rfl ⟨⟨t, u, rfl, HVL.out⟩, (by repeat (first | exact HWB.out | exact HWA.out | exact HW0.out | (with_reducible refine Bel.drwN ?_ _) | (with_reducible refine Bel.drw ?_) | (with_reducible refine Bel.al ?_ _) | ((with_reducible refine Bel.st2 ?_ ?_ _); (show _ ≤ _; dsimp only; omega))))⟩
end Go.Proofs.Ytmgdoglnckkobaa.Sk
namespace Go.Proofs.Ytmgdoglnckkobaa.Sk
open Go.ChangeShapes Go.WideShapes Go.RowKit Wo Sr Wi Nr Pc Eu Ra
open Wd (Rp rs rs_at rs_cons)
set_option linter.unusedVariables false
set_option linter.unusedSimpArgs false
/-- how far a coordinate lies from an interval -/
def dd (a : Int) (r : Rp) : Int := max 0 (max (16 * r.1 - (a + 1)) (a - 16 * (r.2 + 1)))
theorem dd_in (a : Int) (r : Rp) (h1 : -2147483649 ≤ a) (h2 : a ≤ 2147483649) (h3 : -1099511627776 ≤ r.1) (h4 : r.1 ≤ 1099511627776) (h5 : -1099511627776 ≤ r.2) (h6 : r.2 ≤ 1099511627776) : 0 ≤ dd a r ∧ dd a r ≤ 17596481011712 := by unfold dd; omega
def kp (m n p : Nat) : Int := 2097152 * cmn m n / (2097152 * (lns m n).getD p 0)
/-- the excess of the first pieces -/
def xs (m n : Nat) (X : List Int) (L : List Rp) : Nat → Int
  | 0 => 0
  | p + 1 => xs m n X L p + min (dd (Rt.quo (1024 * (pls (cen X) m n).getD p 0) ((m : Int) * vr X)) (L.getD p (0, 0))) 16384 * min (dd (Rt.quo (1024 * (pls (cen X) m n).getD p 0) ((m : Int) * vr X)) (L.getD p (0, 0))) 16384 * kp m n p
theorem kp_in {m n p : Nat} (m32 : m ≤ 32) (n1 : 1 ≤ n) (nm : n ≤ m) (hp : p < n) : 0 ≤ kp m n p ∧ kp m n p ≤ 289 := by
  have c := cmn_in m32 n1 nm
  have l := lns_in m32 n1 nm p hp
  unfold kp
  refine ⟨Int.ediv_nonneg (by omega) (by omega), ?_⟩
  have : 2097152 * cmn m n / (2097152 * (lns m n).getD p 0) < 290 := by
    rw [Int.ediv_lt_iff_lt_mul (by omega)]
    omega
  omega
theorem sq_bd14 {d : Int} (d0 : 0 ≤ d) : 0 ≤ min d 16384 * min d 16384 ∧ min d 16384 * min d 16384 ≤ 268435456 := by
  obtain ⟨x, hx⟩ : ∃ x, min d 16384 = x := ⟨_, rfl⟩
  rw [hx]
  exact ⟨Int.mul_nonneg (by omega) (by omega), Int.mul_le_mul (by omega : x ≤ 16384) (by omega : x ≤ 16384) (by omega : 0 ≤ x) (by decide)⟩
theorem quo_bd2 {t e : Int} (h : Rt.QIn t e) : -2147483649 ≤ Rt.quo t e ∧ Rt.quo t e ≤ 2147483648 := by
  obtain ⟨h1, h2, h3, h4⟩ := id h
  have a := Rt.sq_bd h1 h2
  have d := Rt.div_bd a.1 a.2 h3
  have i0 := Rt.isq_nonneg (t * t / e)
  have i1 := Rt.isq_le_max d.1 d.2
  unfold Rt.quo
  split
  · omega
  · split <;> omega
theorem dd_nonneg (a : Int) (r : Rp) : 0 ≤ dd a r := by unfold dd; omega
theorem xs_in {m n : Nat} {X : List Int} {L : List Rp} (m32 : m ≤ 32) (n1 : 1 ≤ n) (nm : n ≤ m) : ∀ p, p ≤ n → 0 ≤ xs m n X L p ∧ xs m n X L p ≤ 77577846784 * (p : Int)
  | 0, _ => by unfold xs; omega
  | p + 1, hp => by
    have ih := xs_in (X := X) (L := L) m32 n1 nm p (by omega)
    have k := kp_in m32 n1 nm (show p < n by omega)
    have s := sq_bd14 (dd_nonneg (Rt.quo (1024 * (pls (cen X) m n).getD p 0) ((m : Int) * vr X)) (L.getD p (0, 0)))
    unfold xs
    obtain ⟨Y, hY⟩ : ∃ Y, min (dd (Rt.quo (1024 * (pls (cen X) m n).getD p 0) ((m : Int) * vr X)) (L.getD p (0, 0))) 16384 * min (dd (Rt.quo (1024 * (pls (cen X) m n).getD p 0) ((m : Int) * vr X)) (L.getD p (0, 0))) 16384 = Y := ⟨_, rfl⟩
    rw [hY] at s ⊢
    have z1 : 0 ≤ Y * kp m n p := Int.mul_nonneg s.1 k.1
    have z2 : Y * kp m n p ≤ 268435456 * 289 := Int.mul_le_mul s.2 k.2 k.1 (by decide)
    omega
theorem dd_mono {a : Int} {r s : Rp} (h1 : r.1 ≤ s.1) (h2 : s.2 ≤ r.2) : dd a r ≤ dd a s := by unfold dd; omega
theorem xs_mono {m n : Nat} {X : List Int} {L M : List Rp} (m32 : m ≤ 32) (n1 : 1 ≤ n) (nm : n ≤ m) (h : ∀ p, p < n → (L.getD p (0, 0)).1 ≤ (M.getD p (0, 0)).1 ∧ (M.getD p (0, 0)).2 ≤ (L.getD p (0, 0)).2) : ∀ p, p ≤ n → xs m n X L p ≤ xs m n X M p
  | 0, _ => Int.le_refl _
  | p + 1, hp => by
    have ih := xs_mono (X := X) m32 n1 nm h p (by omega)
    have k := kp_in m32 n1 nm (show p < n by omega)
    have hd := dd_mono (a := Rt.quo (1024 * (pls (cen X) m n).getD p 0) ((m : Int) * vr X)) (h p (by omega)).1 (h p (by omega)).2
    have d0 := dd_nonneg (Rt.quo (1024 * (pls (cen X) m n).getD p 0) ((m : Int) * vr X)) (L.getD p (0, 0))
    unfold xs
    obtain ⟨a, ha⟩ : ∃ Y, dd (Rt.quo (1024 * (pls (cen X) m n).getD p 0) ((m : Int) * vr X)) (L.getD p (0, 0)) = Y := ⟨_, rfl⟩
    obtain ⟨b, hb⟩ : ∃ Y, dd (Rt.quo (1024 * (pls (cen X) m n).getD p 0) ((m : Int) * vr X)) (M.getD p (0, 0)) = Y := ⟨_, rfl⟩
    rw [ha] at hd d0 ⊢
    rw [hb] at hd ⊢
    have s1 : min a 16384 * min a 16384 ≤ min b 16384 * min b 16384 := Int.mul_le_mul (by omega) (by omega) (by omega) (by omega)
    have s2 := Int.mul_le_mul_of_nonneg_right s1 k.1
    omega
/-- the bound of a region, as a quotient -/
def rT (m n : Nat) (X : List Int) (L : List Rp) : Int := if (m : Int) * vr X = 0 then (if anyo L n then 1 else 0) else bT (xs m n X L n) (2097152 * cmn m n)
def rC (m n : Nat) (X : List Int) : Int := if (m : Int) * vr X = 0 then 1 else 2097152 * cmn m n * (2097152 * cmn m n)
theorem rC_pos {m n : Nat} {X : List Int} (m32 : m ≤ 32) (n1 : 1 ≤ n) (nm : n ≤ m) : 1 ≤ rC m n X := by
  have c := cmn_in m32 n1 nm
  unfold rC
  split
  · decide
  · have := Int.mul_le_mul (show (1 : Int) ≤ 2097152 * cmn m n by omega) (show (1 : Int) ≤ 2097152 * cmn m n by omega) (by decide) (by omega)
    omega
theorem rT_mono {m n : Nat} {X : List Int} {L M : List Rp} (m32 : m ≤ 32) (n1 : 1 ≤ n) (nm : n ≤ m) (h : ∀ p, p < n → (L.getD p (0, 0)).1 ≤ (M.getD p (0, 0)).1 ∧ (M.getD p (0, 0)).2 ≤ (L.getD p (0, 0)).2) : rT m n X L ≤ rT m n X M := by
  unfold rT
  split
  · by_cases hl : anyo L n
    · have : anyo M n := by
        obtain ⟨p, hp, ho⟩ := hl
        refine ⟨p, hp, ?_⟩
        have := h p hp
        unfold offz at ho ⊢
        omega
      rw [if_pos hl, if_pos this]; exact Int.le_refl _
    · rw [if_neg hl]; split <;> decide
  · exact bT_mono (xs_mono m32 n1 nm h n (Nat.le_refl _))
set_option maxHeartbeats 8000000 in
set_option maxRecDepth 100000 in
theorem sreg_ok (a c m n h cl : Nat) (X : List Int) (L : List Rp) (m2 : 2 ≤ m) (m32 : m ≤ 32) (n1 : 1 ≤ n) (n8 : n ≤ 8) (nm : n ≤ m) (hs : Sam X) (hX : X.length = m) (hL : ∀ p, p < n → (-1099511627776 ≤ (L.getD p (0, 0)).1 ∧ (L.getD p (0, 0)).1 ≤ 1099511627776) ∧ -1099511627776 ≤ (L.getD p (0, 0)).2 ∧ (L.getD p (0, 0)).2 ≤ 1099511627776) (hLe : ∀ p, p < n → (L.getD p (0, 0)).1 ≤ (L.getD p (0, 0)).2) (w : World) (hz : Skz w a n m X) (hv : Zv w h n L) :
    Calls Try.prog 40 #[skv a c m n ((m : Int) * vr X), .slice (some ⟨h, 0, none⟩) n cl] w fun e w' => (∃ t u, e = .returned (.tuple #[.agg #[.int .i64 t, .int .i64 u], .int .i64 0]) ∧ Vl t u (rT m n X L) (rC m n X)) ∧ Bel w w' := by
  have ex := cen_en hX hs m32
  have px := cen_pb (n := n) hs hX m32 n1
  have rx := rsd_in (cen X) m n (by rw [cen_len', hX]) n1 nm
  have fx : rsd (cen X) m n = (m : Int) * vr X - tf (cen X) m n n := by unfold rsd tf; rw [ex.2.2.2]
  have HPB : Hid (∀ p, p < n → -2048000 ≤ (pls (cen X) m n).getD p 0 ∧ (pls (cen X) m n).getD p 0 ≤ 2048000) := fun p hp => by rw [pls_pa _ _ _ _ hp]; exact px p hp
  have VX : Hid (∀ W, Bel w W → Calls Try.prog 75 #[.agg #[.int .i64 (m : Int), .slice (some ⟨a, 0, none⟩) n c, .int .i64 ((m : Int) * vr X)]] W fun e w' => e = .returned (.bool true) ∧ Bel W w') := fun W hW => valid_ok a c m n _ (vr X) (cen X) px rfl ex.1 ex.2.1 (by omega) m2 m32 n1 n8 nm W (hz.bel hW)
  have B1 : Hid (∀ W, Bel w W → Calls Try.prog 76 #[.slice (some ⟨h, 0, none⟩) n cl, .func (.func 77) #[] #[]] W fun e w' => e = .returned (.bool false) ∧ Bel W w') := fun W hW => cbeyond_ok h cl n L n8 hL W (hv.bel hW)
  have B2 : Hid (∀ W, Bel w W → Calls Try.prog 76 #[.slice (some ⟨h, 0, none⟩) n cl, .func (.func 78) #[] #[]] W fun e w' => e = .returned (.bool false) ∧ Bel W w') := fun W hW => cturned_ok h cl n L n8 hLe W (hv.bel hW)
  have B3 : Hid (∀ W, Bel w W → Calls Try.prog 76 #[.slice (some ⟨h, 0, none⟩) n cl, .func (.func 79) #[] #[]] W fun e w' => e = .returned (.bool (decide (anyo L n))) ∧ Bel W w') := fun W hW => outc_ok h cl n L n8 W (hv.bel hW)
  have NO : Hid (∀ W, Calls Try.prog 80 #[.agg #[.int .i64 (m : Int), .slice (some ⟨a, 0, none⟩) n c, .int .i64 ((m : Int) * vr X)]] W fun e w' => ∃ g, e = .returned (.agg #[.int .i64 0, .int .i64 (2097152 * cmn m n), .slice (some ⟨g, 0, none⟩) n n]) ∧ W.heap.size ≤ g ∧ Bk w' g 3 (zs (lns m n)).toArray ∧ Bel W w') := fun W => none_ok a c m n _ m2 m32 n1 n8 nm W
  have ci := cmn_in m32 n1 nm
  have HCI : Hid (1 ≤ cmn m n ∧ cmn m n ≤ 289) := ⟨ci.2.2.1, ci.2.2.2.1⟩
  have HLN : Hid (∀ p, p < n → 1 ≤ (lns m n).getD p 0 ∧ (lns m n).getD p 0 ≤ 33) := fun p hp => ⟨(lns_in m32 n1 nm p hp).1, (lns_in m32 n1 nm p hp).2.1⟩
  have HXS : Hid (∀ p, p ≤ n → 0 ≤ xs m n X L p ∧ xs m n X L p ≤ 77577846784 * (p : Int)) := xs_in m32 n1 nm
  have HXN : Hid (∀ p, xs m n X L (p + 1) = xs m n X L p + min (dd (Rt.quo (1024 * (pls (cen X) m n).getD p 0) ((m : Int) * vr X)) (L.getD p (0, 0))) 16384 * min (dd (Rt.quo (1024 * (pls (cen X) m n).getD p 0) ((m : Int) * vr X)) (L.getD p (0, 0))) 16384 * (2097152 * cmn m n / (2097152 * (lns m n).getD p 0))) := fun p => rfl
  have HEB : Hid (0 ≤ (m : Int) * vr X ∧ (m : Int) * vr X ≤ 4611686018427387904) := ⟨ex.1, by omega⟩
  have HRT : Hid (rT m n X L = if (m : Int) * vr X = 0 then (if anyo L n then 1 else 0) else bT (xs m n X L n) (2097152 * cmn m n)) := rfl
  have HRC : Hid (rC m n X = if (m : Int) * vr X = 0 then 1 else 2097152 * cmn m n * (2097152 * cmn m n)) := rfl
  obtain ⟨E, hE⟩ : ∃ E, (m : Int) * vr X = E := ⟨_, rfl⟩
  rw [hE] at VX NO HXN HEB HRT HRC ⊢
  obtain ⟨T, hT⟩ : ∃ E, rT m n X L = E := ⟨_, rfl⟩
  obtain ⟨C, hC⟩ : ∃ E, rC m n X = E := ⟨_, rfl⟩
  rw [hT] at HRT ⊢
  rw [hC] at HRC ⊢
  have HZ := Lib.hid hz
  have HV := Lib.hid hv
  have HLL := Lib.hid hL
  have ni : (n : Int) ≤ 8 := by omega
  have nn := ne_self (n : Int)
  have HN1 := Lib.hid n1
  have MK : Hid (∀ v : Int, v = 0 ∨ v = 1 → ∃ t u, Vl t u v 1 ∧ ∀ W, Calls Try.prog 54 #[.int .i64 v, .int .i64 1] W fun e w' => e = .returned (.tuple #[.agg #[.int .i64 t, .int .i64 u], .int .i64 0]) ∧ Bel W w') := fun v hv => by
    have mf := make_facts (n := v) (d := 1) (by omega) (by decide) (by omega) (by decide)
    exact ⟨_, _, ⟨mf.2.2.2.2.2.2.1, mf.2.2.2.2.2.2.2⟩, fun W => make_in v 1 W (by omega) (by decide) (rin_yes mf.2.2.2.2.2.2.1.1) (by omega) (by decide)⟩
  have HB0 : Hid (Bk ((w.alloc (.cells #[.int .i64 (m : Int), .slice (some ⟨a, 0, none⟩) n c, .int .i64 E] 67)).alloc (.cells #[.int .i64 0, .int .i64 0] 37)) w.heap.size 67 #[.int .i64 (m : Int), .slice (some ⟨a, 0, none⟩) n c, .int .i64 E]) := (Bk.nw _ _ _).al _
  have HR0 : Hid (Bk ((w.alloc (.cells #[.int .i64 (m : Int), .slice (some ⟨a, 0, none⟩) n c, .int .i64 E] 67)).alloc (.cells #[.int .i64 0, .int .i64 0] 37)) (w.heap.size + 1) 37 #[.int .i64 0, .int .i64 0]) := Bk.nq _ _ _ (by simp)
  have HW0 : Hid (Bel w ((w.alloc (.cells #[.int .i64 (m : Int), .slice (some ⟨a, 0, none⟩) n c, .int .i64 E] 67)).alloc (.cells #[.int .i64 0, .int .i64 0] 37))) := (Bel.rf.al _).al _
  have KS : Hid (∀ W, Bel ((w.alloc (.cells #[.int .i64 (m : Int), .slice (some ⟨a, 0, none⟩) n c, .int .i64 E] 67)).alloc (.cells #[.int .i64 0, .int .i64 0] 37)) W → W.cell? ⟨w.heap.size, 0, none⟩ = some (.int .i64 (m : Int)) ∧ W.cell? ⟨w.heap.size, 1, none⟩ = some (.slice (some ⟨a, 0, none⟩) n c) ∧ W.cell? ⟨w.heap.size, 2, none⟩ = some (.int .i64 E)) := fun W hW => by
    have u0 := (HB0.out.bel hW).cell 0
    have u1 := (HB0.out.bel hW).cell 1
    have u2 := (HB0.out.bel hW).cell 2
    simp only [List.getElem?_toArray, List.getElem?_cons_zero, List.getElem?_cons_succ] at u0 u1 u2
    exact ⟨u0, u1, u2⟩
  have KR : Hid (∀ W, Bel ((w.alloc (.cells #[.int .i64 (m : Int), .slice (some ⟨a, 0, none⟩) n c, .int .i64 E] 67)).alloc (.cells #[.int .i64 0, .int .i64 0] 37)) W → ∀ x y : Int, Bk ((W.setCell ⟨w.heap.size + 1, 0, none⟩ (.int .i64 x)).setCell ⟨w.heap.size + 1, 1, none⟩ (.int .i64 y)) (w.heap.size + 1) 37 #[.int .i64 x, .int .i64 y] ∧ Bel w ((W.setCell ⟨w.heap.size + 1, 0, none⟩ (.int .i64 x)).setCell ⟨w.heap.size + 1, 1, none⟩ (.int .i64 y)) ∧ W.cell? ⟨w.heap.size + 1, 0, none⟩ = some (.int .i64 0) ∧ W.cell? ⟨w.heap.size + 1, 1, none⟩ = some (.int .i64 0) ∧ W.frozen? ⟨w.heap.size + 1, 0, none⟩ = false ∧ W.frozen? ⟨w.heap.size + 1, 1, none⟩ = false) := fun W hW x y => by
    have hb := HR0.out.bel hW
    have u0 := hb.cell 0
    have u1 := hb.cell 1
    simp only [List.getElem?_toArray, List.getElem?_cons_zero, List.getElem?_cons_succ] at u0 u1
    exact ⟨(hb.st 0 _).st 1 _, Bel.st2 (by show w.heap.size ≤ w.heap.size + 1; omega) (Bel.st2 (by show w.heap.size ≤ w.heap.size + 1; omega) (HW0.out.tr hW) _) _, u0, u1, hb.fr 0, hb.fr 1⟩
  clear ex px rx fx ci hz hv hL hLe hE hT hC
  unfold skv
  go_enter Try.func40, Try.ntmps40
  go_wp2_with fail
  go_at_call 75
  refine (VX.out _ (HW0.out.tr (by repeat (first | exact Bel.rf | (with_reducible refine Bel.drwN ?_ _) | (with_reducible refine Bel.drw ?_) | (with_reducible refine Bel.al ?_ _))))).mono ?_
  rintro e w1 ⟨rfl, hb⟩
  have H1 : Hid (Bel ((w.alloc (.cells #[.int .i64 (m : Int), .slice (some ⟨a, 0, none⟩) n c, .int .i64 E] 67)).alloc (.cells #[.int .i64 0, .int .i64 0] 37)) w1) := Bel.tr (by repeat (first | exact Bel.rf | (with_reducible refine Bel.drwN ?_ _) | (with_reducible refine Bel.drw ?_) | (with_reducible refine Bel.al ?_ _))) hb
  obtain ⟨q0, q1, q2⟩ := KS.out w1 H1.out
  clear hb
  go_wp2_with fail
  go_at_call 76
  refine (B1.out _ (HW0.out.tr (H1.out.tr (by repeat (first | exact Bel.rf | (with_reducible refine Bel.drwN ?_ _) | (with_reducible refine Bel.drw ?_) | (with_reducible refine Bel.al ?_ _)))))).mono ?_
  rintro e w2 ⟨rfl, hb⟩
  have H2 : Hid (Bel ((w.alloc (.cells #[.int .i64 (m : Int), .slice (some ⟨a, 0, none⟩) n c, .int .i64 E] 67)).alloc (.cells #[.int .i64 0, .int .i64 0] 37)) w2) := H1.out.tr (Bel.tr (by repeat (first | exact Bel.rf | (with_reducible refine Bel.drwN ?_ _) | (with_reducible refine Bel.drw ?_) | (with_reducible refine Bel.al ?_ _))) hb)
  clear hb q0 q1 q2
  go_wp2_with fail
  go_at_call 76
  refine (B2.out _ (HW0.out.tr (H2.out.tr (by repeat (first | exact Bel.rf | (with_reducible refine Bel.drwN ?_ _) | (with_reducible refine Bel.drw ?_) | (with_reducible refine Bel.al ?_ _)))))).mono ?_
  rintro e w3 ⟨rfl, hb⟩
  have H3 : Hid (Bel ((w.alloc (.cells #[.int .i64 (m : Int), .slice (some ⟨a, 0, none⟩) n c, .int .i64 E] 67)).alloc (.cells #[.int .i64 0, .int .i64 0] 37)) w3) := H2.out.tr (Bel.tr (by repeat (first | exact Bel.rf | (with_reducible refine Bel.drwN ?_ _) | (with_reducible refine Bel.drw ?_) | (with_reducible refine Bel.al ?_ _))) hb)
  obtain ⟨q0, q1, q2⟩ := KS.out w3 H3.out
  clear hb
  by_cases hE0 : E = 0
  · have HT1 : Hid (T = if anyo L n then 1 else 0) := by show _ = _; rw [HRT.out, if_pos hE0]
    have HC1 : Hid (C = 1) := by show _ = _; rw [HRC.out, if_pos hE0]
    have he : (E == 0) = true := by simpa using hE0
    clear hE0
    go_wp2_with fail
    go_at_call 76
    refine (B3.out _ (HW0.out.tr (H3.out.tr (by repeat (first | exact Bel.rf | (with_reducible refine Bel.drwN ?_ _) | (with_reducible refine Bel.drw ?_) | (with_reducible refine Bel.al ?_ _)))))).mono ?_
    rintro e w4 ⟨rfl, hb⟩
    have H4 : Hid (Bel ((w.alloc (.cells #[.int .i64 (m : Int), .slice (some ⟨a, 0, none⟩) n c, .int .i64 E] 67)).alloc (.cells #[.int .i64 0, .int .i64 0] 37)) w4) := H3.out.tr (Bel.tr (by repeat (first | exact Bel.rf | (with_reducible refine Bel.drwN ?_ _) | (with_reducible refine Bel.drw ?_) | (with_reducible refine Bel.al ?_ _))) hb)
    clear hb q0 q1 q2
    by_cases ha : anyo L n
    · obtain ⟨t, u, hvl, hmk⟩ := MK.out 1 (.inr rfl)
      have HVL : Hid (Vl t u T C) := by show Vl _ _ _ _; rw [HT1.out, HC1.out, if_pos ha]; exact hvl
      have HMK := Lib.hid hmk
      have da : decide (anyo L n) = true := decide_eq_true ha
      clear hvl hmk ha
      go_wp2_with fail
      go_at_call 54
      refine (HMK.out _).mono ?_
      rintro e w5 ⟨rfl, hb⟩
      have H5 : Hid (Bel ((w.alloc (.cells #[.int .i64 (m : Int), .slice (some ⟨a, 0, none⟩) n c, .int .i64 E] 67)).alloc (.cells #[.int .i64 0, .int .i64 0] 37)) w5) := H4.out.tr (Bel.tr (by repeat (first | exact Bel.rf | (with_reducible refine Bel.drwN ?_ _) | (with_reducible refine Bel.drw ?_) | (with_reducible refine Bel.al ?_ _))) hb)
      obtain ⟨k1, k2, y0, y1, z0, z1⟩ := KR.out w5 H5.out t u
      have HK1 := Lib.hid k1
      have HK2 := Lib.hid k2
      clear hb k1 k2
      go_wp2
      exact bodyPost_ret (v := .tuple #[.agg #[.int .i64 t, .int .i64 u], .int .i64 0]) (results_rt Try.results40 _ _ (w.heap.size + 1) _ _ _ rfl rfl HK1.out) rfl ⟨⟨t, u, rfl, HVL.out⟩, HK2.out⟩
    · obtain ⟨t, u, hvl, hmk⟩ := MK.out 0 (.inl rfl)
      have HVL : Hid (Vl t u T C) := by show Vl _ _ _ _; rw [HT1.out, HC1.out, if_neg ha]; exact hvl
      have HMK := Lib.hid hmk
      have da : decide (anyo L n) = false := decide_eq_false ha
      clear hvl hmk ha
      go_wp2_with fail
      go_at_call 54
      refine (HMK.out _).mono ?_
      rintro e w5 ⟨rfl, hb⟩
      have H5 : Hid (Bel ((w.alloc (.cells #[.int .i64 (m : Int), .slice (some ⟨a, 0, none⟩) n c, .int .i64 E] 67)).alloc (.cells #[.int .i64 0, .int .i64 0] 37)) w5) := H4.out.tr (Bel.tr (by repeat (first | exact Bel.rf | (with_reducible refine Bel.drwN ?_ _) | (with_reducible refine Bel.drw ?_) | (with_reducible refine Bel.al ?_ _))) hb)
      obtain ⟨k1, k2, y0, y1, z0, z1⟩ := KR.out w5 H5.out t u
      have HK1 := Lib.hid k1
      have HK2 := Lib.hid k2
      clear hb k1 k2
      go_wp2
      exact bodyPost_ret (v := .tuple #[.agg #[.int .i64 t, .int .i64 u], .int .i64 0]) (results_rt Try.results40 _ _ (w.heap.size + 1) _ _ _ rfl rfl HK1.out) rfl ⟨⟨t, u, rfl, HVL.out⟩, HK2.out⟩
  · have HT1 : Hid (T = bT (xs m n X L n) (2097152 * cmn m n)) := by show _ = _; rw [HRT.out, if_neg hE0]
    have HC1 : Hid (C = 2097152 * cmn m n * (2097152 * cmn m n)) := by show _ = _; rw [HRC.out, if_neg hE0]
    have he : (E == 0) = false := by simpa using hE0
    go_wp2_with fail
    go_at_call 80
    refine (NO.out _).mono ?_
    rintro e w4 ⟨g, rfl, hg0, hgk, hb⟩
    have hb4 : Bel w3 w4 := Bel.tr (by repeat (first | exact Bel.rf | (with_reducible refine Bel.drwN ?_ _) | (with_reducible refine Bel.drw ?_) | (with_reducible refine Bel.al ?_ _))) hb
    have H4 : Hid (Bel ((w.alloc (.cells #[.int .i64 (m : Int), .slice (some ⟨a, 0, none⟩) n c, .int .i64 E] 67)).alloc (.cells #[.int .i64 0, .int .i64 0] 37)) w4) := H3.out.tr hb4
    have HGK := Lib.hid hgk
    obtain ⟨Q, hQ⟩ : ∃ Q, cmn m n = Q := ⟨_, rfl⟩
    rw [hQ] at HCI HT1 HC1 HXN
    have HZ4 : Hid (Bk (w4.alloc (.cells #[.int .i64 0, .int .i64 (2097152 * Q), .slice (some ⟨g, 0, none⟩) n n] 105)) w4.heap.size 105 #[.int .i64 (xs m n X L 0), .int .i64 (2097152 * Q), .slice (some ⟨g, 0, none⟩) n n]) := Bk.nw _ _ _
    have HL4 : Hid (Bel ((w.alloc (.cells #[.int .i64 (m : Int), .slice (some ⟨a, 0, none⟩) n c, .int .i64 E] 67)).alloc (.cells #[.int .i64 0, .int .i64 0] 37)) (w4.alloc (.cells #[.int .i64 0, .int .i64 (2097152 * Q), .slice (some ⟨g, 0, none⟩) n n] 105))) := H4.out.al _
    have HG4 : Hid (Bk (w4.alloc (.cells #[.int .i64 0, .int .i64 (2097152 * Q), .slice (some ⟨g, 0, none⟩) n n] 105)) g 3 (zs (lns m n)).toArray) := hgk.al _
    have HWH : Hid (w.heap.size + 1 < w4.heap.size) := (HR0.out.bel H4.out).lt
    have HGN : Hid (g ≠ w4.heap.size) := fun e => by have := hgk.lt; omega
    rw [hQ]
    have HKC : Hid (∀ W, Ch w4.heap.size (w4.alloc (.cells #[.int .i64 0, .int .i64 (2097152 * Q), .slice (some ⟨g, 0, none⟩) n n] 105)) W → Bel ((w.alloc (.cells #[.int .i64 (m : Int), .slice (some ⟨a, 0, none⟩) n c, .int .i64 E] 67)).alloc (.cells #[.int .i64 0, .int .i64 0] 37)) W) := fun W hW => Bel.ch H4.out ((Ch.of_bel (Bel.rf.al _)).tr hW) (by have := H4.out.size; omega)
    clear hb hb4 hg0 hgk hQ q0 q1 q2
    obtain ⟨z, hzz⟩ : ∃ z, w4.heap.size = z := ⟨_, rfl⟩
    rw [hzz] at HZ4 HWH HGN HKC
    have HZQ : Hid (w.heap.size + 1 < z) := HWH.out
    go_wp2_with fail
    try rw [hzz]
    clear hzz
    go_loopw [45] (fun s45 wr => ∃ (i : Nat) (V : World), V = wr ∧ i ≤ n ∧ s45 = .int .i64 (i : Int) ∧ Bk wr z 105 #[.int .i64 (xs m n X L i), .int .i64 (2097152 * Q), .slice (some ⟨g, 0, none⟩) n n] ∧ Ch z (w4.alloc (.cells #[.int .i64 0, .int .i64 (2097152 * Q), .slice (some ⟨g, 0, none⟩) n n] 105)) wr) (fun s45 _ => n - (intOf s45).toNat)
    case atStart => exact ⟨0, _, rfl, by omega, by go_num, (by repeat (first | exact HZ4.out | (with_reducible refine Bk.drwN ?_ _) | (with_reducible refine Bk.drw ?_))), (by repeat (first | exact Ch.rf | (with_reducible refine Ch.drwN ?_ _) | (with_reducible refine Ch.drw ?_)))⟩
    case round =>
      obtain ⟨i, wr, hwr, hi, rfl, hk, hc⟩ := hrel
      subst hwr
      have HK := Lib.hid hk
      have HC := Lib.hid hc
      have HBW : Hid (Bel ((w.alloc (.cells #[.int .i64 (m : Int), .slice (some ⟨a, 0, none⟩) n c, .int .i64 E] 67)).alloc (.cells #[.int .i64 0, .int .i64 0] 37)) wr) := HKC.out wr hc
      clear hk hc
      rcases Nat.lt_or_ge i n with hlt | hge
      · have ii : (i : Int) < (n : Int) := by omega
        have i0 : (0 : Int) ≤ (i : Int) := by omega
        obtain ⟨c1, c2⟩ := (HV.out.bel (HW0.out.tr HBW.out)).2 i hlt
        have hlb := HLL.out i hlt
        obtain ⟨x, hx⟩ : ∃ x, L.getD i (0, 0) = x := ⟨_, rfl⟩
        have hxn := HXN.out i
        rw [hx] at c1 c2 hlb hxn
        obtain ⟨x1, x2⟩ := x
        dsimp only at c1 c2 hlb
        obtain ⟨⟨l1, l2⟩, l3, l4⟩ := hlb
        obtain ⟨s1, s2⟩ := HPB.out i hlt
        have cs : wr.cell? ⟨a, i, none⟩ = some (.int .i64 ((pls (cen X) m n).getD i 0)) := (Zi.bel HZ.out (HW0.out.tr HBW.out)).at i hlt
        obtain ⟨s, hs'⟩ : ∃ s, (pls (cen X) m n).getD i 0 = s := ⟨_, rfl⟩
        rw [hs'] at s1 s2 cs hxn
        have e1 : 1 ≤ E := by have := HEB.out.1; omega
        have hqi : Rt.QIn (1024 * s) E := ⟨by omega, by omega, e1, HEB.out.2⟩
        have QU : Hid (∀ W, Calls Try.prog 81 #[.int .i64 (1024 * s), .int .i64 E] W fun r w' => r = .returned (.tuple #[.int .i64 (Rt.quo (1024 * s) E), .int .i64 0]) ∧ W = w') := fun W => Rt.quo_in _ _ W hqi
        have qb := quo_bd2 hqi
        obtain ⟨av, hav⟩ : ∃ v, Rt.quo (1024 * s) E = v := ⟨_, rfl⟩
        rw [hav] at QU qb hxn
        obtain ⟨qb1, qb2⟩ := qb
        have HXN2 := Lib.hid hxn
        have wq : IntKind.i64.wrap (1024 * s) = 1024 * s := IntWalk.i64_in _ (by omega)
        have HCS := Lib.hid cs
        have KT : Hid (∀ W, Bel wr W → W.cell? ⟨w.heap.size, 1, none⟩ = some (.slice (some ⟨a, 0, none⟩) n c) ∧ W.cell? ⟨w.heap.size, 2, none⟩ = some (.int .i64 E) ∧ W.cell? ⟨a, i, none⟩ = some (.int .i64 s)) := fun W hW => ⟨(KS.out W (HBW.out.tr hW)).2.1, (KS.out W (HBW.out.tr hW)).2.2, hW.kp HCS.out⟩
        clear hx hs' hav hqi cs hxn e1
        have HI8 : Hid (Bk (wr.alloc (.cells #[.int .i64 x1, .int .i64 x2] 98)) wr.heap.size 98 #[.int .i64 x1, .int .i64 x2]) := Bk.nw _ _ _
        have HB8 : Hid (Bel wr (wr.alloc (.cells #[.int .i64 x1, .int .i64 x2] 98))) := Bel.rf.al _
        have hln := HLN.out i hlt
        have hxsb := HXS.out i (by omega)
        have AD : Hid (∀ (d : Int) (W : World), d = dd av (x1, x2) → Bel wr W → Calls Try.prog 82 #[.pointer (some ⟨z, 0, none⟩), .int .i64 (i : Int), .int .i64 d] W fun e w' => e = .returned (.tuple #[]) ∧ Bk w' z 105 #[.int .i64 (xs m n X L (i + 1)), .int .i64 (2097152 * Q), .slice (some ⟨g, 0, none⟩) n n] ∧ Ch z W w') := fun d W hd hW => by
          have hdi := dd_in av (x1, x2) (by omega) (by omega) l1 l2 l3 l4
          rw [← hd] at hdi
          rw [HXN2.out, ← hd]
          exact add_ok z g n i (xs m n X L i) Q d _ (lns m n) (by omega) hlt rfl hln.1 hln.2 HCI.out.1 HCI.out.2 hdi.1 hdi.2 hxsb.1 (by omega) W (HK.out.bel hW) ((zi_bk ((HC.out.bk HG4.out HGN.out)) n (lns_len m n)).bel hW)
        have HQB : Hid (-2147483649 ≤ av ∧ av ≤ 2147483648) := ⟨qb1, qb2⟩
        clear hln hxsb
        go_upto_region 17 with fail
        refine wp_region_noPanic ?_
        refine wp_region_held_drew (S := fun W : World => W.cell? ⟨w.heap.size, 1, none⟩ = some (.slice (some ⟨a, 0, none⟩) n c) ∧ W.cell? ⟨w.heap.size, 2, none⟩ = some (.int .i64 E) ∧ W.cell? ⟨a, i, none⟩ = some (.int .i64 s)) (by kernel_rfl) ?_ (fun hH0 => ?_)
        · (try dsimp only); exact KT.out _ (HB8.out.tr (by repeat (first | exact Bel.rf | (with_reducible refine Bel.drwN ?_ _) | (with_reducible refine Bel.drw ?_) | (with_reducible refine Bel.al ?_ _))))
        refine wpAnyH_take (i := 0) (oi := ⟨some 51, .fieldAddr 67 (.tmp 2) 1, 0, "sketch.go:105", #[], none⟩) (v := ?_) rfl (by kernel_rfl) (by kernel_rfl) (by kernel_rfl) (fun _ _ _ h => h) (Or.inl ⟨by first | kernel_rfl | rfl, ?_⟩) (by assumption) ?_
        rotate_left
        · (intro w hSw; (try dsimp only at hSw); obtain ⟨d1, d2, d3⟩ := hSw; go_simp; try with_reducible rfl)
        try simp only [Act.put, List.setIfInBounds_toArray, List.set_cons_zero, List.set_cons_succ]
        refine wpAnyH_take (i := 1) (oi := ⟨some 52, .load 22 (.tmp 51), 22, "sketch.go:105", #[⟨0, .data⟩], none⟩) (v := ?_) rfl (by kernel_rfl) (by kernel_rfl) (by kernel_rfl) (fun _ _ _ h => h) (Or.inl ⟨by first | kernel_rfl | rfl, ?_⟩) (by assumption) ?_
        rotate_left
        · (intro w hSw; (try dsimp only at hSw); obtain ⟨d1, d2, d3⟩ := hSw; go_simp; try with_reducible rfl)
        try simp only [Act.put, List.setIfInBounds_toArray, List.set_cons_zero, List.set_cons_succ]
        refine wpAnyH_take (i := 2) (oi := ⟨some 53, .move (.tmp 7), 3, "sketch.go:105", #[], none⟩) (v := ?_) rfl (by kernel_rfl) (by kernel_rfl) (by kernel_rfl) (fun _ _ _ h => h) (Or.inl ⟨by first | kernel_rfl | rfl, ?_⟩) (by assumption) ?_
        rotate_left
        · (intro w hSw; (try dsimp only at hSw); obtain ⟨d1, d2, d3⟩ := hSw; go_simp; try with_reducible rfl)
        try simp only [Act.put, List.setIfInBounds_toArray, List.set_cons_zero, List.set_cons_succ]
        refine wpAnyH_take (i := 3) (oi := ⟨some 54, .indexAddr 22 (.tmp 52) (.tmp 53), 0, "sketch.go:105", #[⟨1, .data⟩, ⟨2, .data⟩], none⟩) (v := ?_) rfl (by kernel_rfl) (by kernel_rfl) (by kernel_rfl) (fun _ _ _ h => h) (Or.inl ⟨by first | kernel_rfl | rfl, ?_⟩) (by assumption) ?_
        rotate_left
        · (intro w hSw; (try dsimp only at hSw); obtain ⟨d1, d2, d3⟩ := hSw; go_simp; try with_reducible rfl)
        try simp only [Act.put, List.setIfInBounds_toArray, List.set_cons_zero, List.set_cons_succ]
        refine wpAnyH_take (i := 4) (oi := ⟨some 55, .load 3 (.tmp 54), 3, "sketch.go:105", #[⟨3, .data⟩], none⟩) (v := ?_) rfl (by kernel_rfl) (by kernel_rfl) (by kernel_rfl) (fun _ _ _ h => h) (Or.inl ⟨by first | kernel_rfl | rfl, ?_⟩) (by assumption) ?_
        rotate_left
        · (intro w hSw; (try dsimp only at hSw); obtain ⟨d1, d2, d3⟩ := hSw; go_simp; try with_reducible rfl)
        try simp only [Act.put, List.setIfInBounds_toArray, List.set_cons_zero, List.set_cons_succ]
        refine wpAnyH_take (i := 5) (oi := ⟨some 56, .binOp BinOp.mul 3 (.const (.int IntKind.i64 1024)) (.tmp 55) 3, 3, "sketch.go:105", #[⟨4, .data⟩], none⟩) (v := ?_) rfl (by kernel_rfl) (by kernel_rfl) (by kernel_rfl) (fun _ _ _ h => h) (Or.inl ⟨by first | kernel_rfl | rfl, ?_⟩) (by assumption) ?_
        rotate_left
        · (intro w hSw; (try dsimp only at hSw); obtain ⟨d1, d2, d3⟩ := hSw; go_simp; try with_reducible rfl)
        try simp only [Act.put, List.setIfInBounds_toArray, List.set_cons_zero, List.set_cons_succ]
        refine wpAnyH_take (i := 6) (oi := ⟨some 57, .fieldAddr 67 (.tmp 2) 2, 0, "sketch.go:105", #[], none⟩) (v := ?_) rfl (by kernel_rfl) (by kernel_rfl) (by kernel_rfl) (fun _ _ _ h => h) (Or.inl ⟨by first | kernel_rfl | rfl, ?_⟩) (by assumption) ?_
        rotate_left
        · (intro w hSw; (try dsimp only at hSw); obtain ⟨d1, d2, d3⟩ := hSw; go_simp; try with_reducible rfl)
        try simp only [Act.put, List.setIfInBounds_toArray, List.set_cons_zero, List.set_cons_succ]
        refine wpAnyH_take (i := 7) (oi := ⟨some 58, .load 3 (.tmp 57), 3, "sketch.go:105", #[⟨6, .data⟩], none⟩) (v := ?_) rfl (by kernel_rfl) (by kernel_rfl) (by kernel_rfl) (fun _ _ _ h => h) (Or.inl ⟨by first | kernel_rfl | rfl, ?_⟩) (by assumption) ?_
        rotate_left
        · (intro w hSw; (try dsimp only at hSw); obtain ⟨d1, d2, d3⟩ := hSw; go_simp; try with_reducible rfl)
        try simp only [Act.put, List.setIfInBounds_toArray, List.set_cons_zero, List.set_cons_succ]
        refine wpAnyH_ready (rs := [8]) (by kernel_rfl) (by simp) ?_
        refine AllReadyH.cons (o := ⟨some 59, .call { callee := Callee.value (.func 81), args := #[.tmp 56, .tmp 58], argTypes := #[3, 3] }, 34, "sketch.go:105", #[⟨5, .data⟩, ⟨7, .data⟩], none⟩) rfl (fun K hK => ?_) AllReadyH.nil
        go_simp
        go_at_call 81; refine (QU.out _).mono ?_; rintro e wq ⟨rfl, rfl⟩
        try go_wp2_with fail
        refine hK.out _ _ ?_ (fun hH1 => ?_)
        · (try dsimp only); exact KT.out _ (HB8.out.tr (by repeat (first | exact Bel.rf | (with_reducible refine Bel.drwN ?_ _) | (with_reducible refine Bel.drw ?_) | (with_reducible refine Bel.al ?_ _))))
        clear hK K hH0
        try simp only [Act.put, List.setIfInBounds_toArray, List.set_cons_zero, List.set_cons_succ]
        refine wpAnyH_take (i := 9) (oi := ⟨some 50, .move (.tmp 59), 34, "sketch.go:105", #[⟨8, .data⟩], none⟩) (v := ?_) rfl (by kernel_rfl) (by kernel_rfl) (by kernel_rfl) (fun _ _ _ h => h) (Or.inl ⟨by first | kernel_rfl | rfl, ?_⟩) (by assumption) ?_
        rotate_left
        · (intro w hSw; (try dsimp only at hSw); obtain ⟨d1, d2, d3⟩ := hSw; go_simp; try with_reducible rfl)
        try simp only [Act.put, List.setIfInBounds_toArray, List.set_cons_zero, List.set_cons_succ]
        refine wpAnyH_take (i := 10) (oi := ⟨some 60, .extract (.tmp 50) 0, 3, "sketch.go:105", #[⟨9, .data⟩], none⟩) (v := ?_) rfl (by kernel_rfl) (by kernel_rfl) (by kernel_rfl) (fun _ _ _ h => h) (Or.inl ⟨by first | kernel_rfl | rfl, ?_⟩) (by assumption) ?_
        rotate_left
        · (intro w hSw; (try dsimp only at hSw); obtain ⟨d1, d2, d3⟩ := hSw; go_simp; try with_reducible rfl)
        try simp only [Act.put, List.setIfInBounds_toArray, List.set_cons_zero, List.set_cons_succ]
        refine wpAnyH_take (i := 11) (oi := ⟨some 61, .extract (.tmp 50) 1, 33, "sketch.go:105", #[⟨9, .data⟩, ⟨12, .gcOnly Departure.lateStores⟩], none⟩) (v := ?_) rfl (by kernel_rfl) (by kernel_rfl) (by kernel_rfl) (fun _ _ _ h => h) (Or.inl ⟨by first | kernel_rfl | rfl, ?_⟩) (by assumption) ?_
        rotate_left
        · (intro w hSw; (try dsimp only at hSw); obtain ⟨d1, d2, d3⟩ := hSw; go_simp; try with_reducible rfl)
        try simp only [Act.put, List.setIfInBounds_toArray, List.set_cons_zero, List.set_cons_succ]
        refine wpAnyH_take (i := 12) (oi := ⟨some 9, .assign (.tmp 60), 3, "sketch.go:105", #[⟨10, .data⟩, ⟨8, .chain⟩, ⟨0, .phase⟩, ⟨1, .phase⟩, ⟨2, .phase⟩, ⟨3, .phase⟩, ⟨4, .phase⟩, ⟨5, .phase⟩, ⟨6, .phase⟩, ⟨7, .phase⟩, ⟨8, .phase⟩, ⟨9, .phase⟩, ⟨10, .phase⟩, ⟨11, .textOnly Departure.lateStores⟩], none⟩) (v := ?_) rfl (by kernel_rfl) (by kernel_rfl) (by kernel_rfl) (fun _ _ _ h => h) (Or.inl ⟨by first | kernel_rfl | rfl, ?_⟩) (by assumption) ?_
        rotate_left
        · (intro w hSw; (try dsimp only at hSw); obtain ⟨d1, d2, d3⟩ := hSw; go_simp; try with_reducible rfl)
        try simp only [Act.put, List.setIfInBounds_toArray, List.set_cons_zero, List.set_cons_succ]
        refine wpAnyH_take (i := 13) (oi := ⟨some 10, .assign (.tmp 61), 33, "sketch.go:105", #[⟨11, .data⟩, ⟨12, .chain⟩, ⟨0, .phase⟩, ⟨1, .phase⟩, ⟨2, .phase⟩, ⟨3, .phase⟩, ⟨4, .phase⟩, ⟨5, .phase⟩, ⟨6, .phase⟩, ⟨7, .phase⟩, ⟨8, .phase⟩, ⟨9, .phase⟩, ⟨10, .phase⟩, ⟨11, .phase⟩, ⟨12, .phase⟩], none⟩) (v := ?_) rfl (by kernel_rfl) (by kernel_rfl) (by kernel_rfl) (fun _ _ _ h => h) (Or.inl ⟨by first | kernel_rfl | rfl, ?_⟩) (by assumption) ?_
        rotate_left
        · (intro w hSw; (try dsimp only at hSw); obtain ⟨d1, d2, d3⟩ := hSw; go_simp; try with_reducible rfl)
        try simp only [Act.put, List.setIfInBounds_toArray, List.set_cons_zero, List.set_cons_succ]
        refine wpAnyH_done (by kernel_rfl) ?_ _
        refine NoPanic.normal ?_
        go_wp2_with fail
        all_goals
          go_at_call 82
          refine (AD.out _ _ (by show _ = dd _ _; unfold dd; dsimp only; omega) (HB8.out.tr (by repeat (first | exact Bel.rf | (with_reducible refine Bel.drwN ?_ _) | (with_reducible refine Bel.drw ?_) | (with_reducible refine Bel.al ?_ _))))).mono ?_
          rintro e w5 ⟨rfl, hk5, hc5⟩
          have HCE : Hid (Ch z (w4.alloc (.cells #[.int .i64 0, .int .i64 (2097152 * Q), .slice (some ⟨g, 0, none⟩) n n] 105)) w5) := HC.out.tr (Ch.tr (Ch.of_bel (HB8.out.tr (by repeat (first | exact Bel.rf | (with_reducible refine Bel.drwN ?_ _) | (with_reducible refine Bel.drw ?_) | (with_reducible refine Bel.al ?_ _))))) hc5)
          have HKE := Lib.hid hk5
          clear hk5 hc5
          go_wp2
          go_roundw
          case rel => exact ⟨i + 1, _, rfl, by omega, by go_num, (by repeat (first | exact HKE.out | (with_reducible refine Bk.drwN ?_ _) | (with_reducible refine Bk.drw ?_))), (by repeat (first | exact HCE.out | (with_reducible refine Ch.drwN ?_ _) | (with_reducible refine Ch.drw ?_)))⟩
          case measure => simp [intOf]; omega
      · obtain rfl : i = n := by omega
        have hxsb := HXS.out i (Nat.le_refl _)
        have k0 := HK.out.cell 0
        have k1 := HK.out.cell 1
        have k2 := HK.out.cell 2
        simp only [List.getElem?_toArray, List.getElem?_cons_zero, List.getElem?_cons_succ] at k0 k1 k2
        have BD : Hid (∀ W, Calls Try.prog 83 #[.agg #[.int .i64 (xs m i X L i), .int .i64 (2097152 * Q), .slice (some ⟨g, 0, none⟩) i i]] W fun e w' => (∃ t u, e = .returned (.tuple #[.agg #[.int .i64 t, .int .i64 u], .int .i64 0]) ∧ Vl t u T C) ∧ Bel W w') := fun W => by
          rw [HT1.out, HC1.out]
          have := HCI.out
          exact bound_ok (xs m i X L i) (2097152 * Q) _ i i hxsb.1 (by omega) (by omega) (by omega) W
        obtain ⟨XN, hXN⟩ : ∃ v, xs m i X L i = v := ⟨_, rfl⟩
        rw [hXN] at k0 BD
        clear hxsb hXN
        go_wp2_with fail
        go_at_call 83
        refine (BD.out _).mono ?_
        rintro e w5 ⟨⟨t, u, rfl, hvl⟩, hb⟩
        have HVL := Lib.hid hvl
        have H5 : Hid (Bel _ w5) := HBW.out.tr (Bel.tr (by repeat (first | exact Bel.rf | (with_reducible refine Bel.drwN ?_ _) | (with_reducible refine Bel.drw ?_) | (with_reducible refine Bel.al ?_ _))) hb)
        obtain ⟨k1', k2', y0, y1, z0, z1⟩ := KR.out w5 H5.out t u
        have HK1 := Lib.hid k1'
        have HK2 := Lib.hid k2'
        clear hb hvl k1' k2' k0 k1 k2
        go_wp2
        exact bodyPost_ret (v := .tuple #[.agg #[.int .i64 t, .int .i64 u], .int .i64 0]) (results_rt Try.results40 _ _ (w.heap.size + 1) _ _ _ rfl rfl HK1.out) rfl ⟨⟨t, u, rfl, HVL.out⟩, HK2.out⟩
end Go.Proofs.Ytmgdoglnckkobaa.Sk
namespace Go.Proofs.Ytmgdoglnckkobaa.Sk
open Go.ChangeShapes Go.WideShapes Go.RowKit Wo Sr Wi Nr Pc Eu Ra
open Wd (Rp rs rs_at rs_cons)
set_option linter.unusedVariables false
set_option linter.unusedSimpArgs false
theorem wp_appg (w : World) {o : Oper} {a : Act} {K : Act → World → Prop} {Q : Exit → Act → World → Prop} (s x : Operand) (t e : TypeId) (z : Value) (size bytes : Nat) (hu : Try.prog.underlying t = some (.slice e))
    (hi : (Try.prog.info? e).map (fun i => (i.zero, i.size, i.bytes)) = some (some z, size, bytes)) (hzs : z.cells.size = size) (hsz : 0 < size)
    (ho : o.op = .call { callee := .builtin .append, args := #[s, x], argTypes := #[t, t] })
    (base : Nat) (v : Value) (n : Nat) (L : List Value) (hs : a.eval s = v) (hown : w.ownsRow base e size v n L) (ad : Addr) (m c : Nat) (M : List Value) (hx : a.eval x = .slice (some ad) m c) (hl : M.length = m * size)
    (hM : ∀ j u, M[j]? = some u → w.cell? (ad.add j) = some u) (h1 : ∀ u ∈ M, u.oneCell' = true) (hn : n + m ≤ 1000000) (hb : bytes ≤ 1000) (hbase : base ≤ w.heap.size)
    (h : ∀ v' w', w'.ownsRow base e size v' (n + m) (L ++ M) → w.grownBy w' v.ownBlock → (v'.ownBlock = v.ownBlock ∨ v'.ownBlock = some w.heap.size) → K (a.put o.dst v') w') : o.wp Try.prog a w K Q := by
  obtain ⟨i0, hi0, hz0, hz1, hz2⟩ := info_parts hi
  obtain ⟨v', w', hr, h2, h3, _, h5⟩ := run_append_own_at (P := Try.prog) w base t o.type e i0 z size bytes hu hi0 hz0 hz1 hz2 hzs hsz v n L hown ad m c M hl hM h1 (by unfold maxLen; omega) (by
    have : (n + m) * bytes ≤ 1000000 * 1000 := Nat.mul_le_mul hn hb
    omega) hbase
  unfold Oper.wp execOp
  simp only [ho, resolve, invoke, builtin, Sem.run_bind, Sem.run_pure, Result.andThen_ok, List.map_toArray, List.map_cons, List.map_nil, hs, hx, hr]
  exact h v' w' h2 h3 h5
theorem step_appg (w : World) {ops : Array Oper} {o : Oper} {a : Act} {K : Act → World → Prop} {Q : Exit → Act → World → Prop} {E : Prop} (hgd : o.guard = none) (s x : Operand) (t e : TypeId) (z : Value) (size bytes : Nat) (hu : Try.prog.underlying t = some (.slice e))
    (hi : (Try.prog.info? e).map (fun i => (i.zero, i.size, i.bytes)) = some (some z, size, bytes)) (hzs : z.cells.size = size) (hsz : 0 < size)
    (ho : o.op = .call { callee := .builtin .append, args := #[s, x], argTypes := #[t, t] })
    (base : Nat) (v : Value) (n : Nat) (L : List Value) (hs : a.eval s = v) (hown : w.ownsRow base e size v n L) (ad : Addr) (m c : Nat) (M : List Value) (hx : a.eval x = .slice (some ad) m c) (hl : M.length = m * size)
    (hM : ∀ j u, M[j]? = some u → w.cell? (ad.add j) = some u) (h1 : ∀ u ∈ M, u.oneCell' = true) (hn : n + m ≤ 1000000) (hb : bytes ≤ 1000) (hbase : base ≤ w.heap.size)
    (h : ∀ v' w', w'.ownsRow base e size v' (n + m) (L ++ M) → w.grownBy w' v.ownBlock → (v'.ownBlock = v.ownBlock ∨ v'.ownBlock = some w.heap.size) → K (a.put o.dst v') w') :
    if Region.wanted o (yielded ops a.tmps) = true then Oper.wp Try.prog o a w K Q else E := by
  have hw : Region.wanted o (yielded ops a.tmps) = true := by simp [Region.wanted, hgd]
  rw [if_pos hw]
  exact wp_appg w s x t e z size bytes hu hi hzs hsz ho base v n L hs hown ad m c M hx hl hM h1 hn hb hbase h
theorem list_appg (w : World) {ops : Array Oper} {rest : List Oper} {o : Oper} {a : Act} {Q : Exit → Act → World → Prop} (hgd : o.guard = none) (s x : Operand) (t e : TypeId) (z : Value) (size bytes : Nat) (hu : Try.prog.underlying t = some (.slice e))
    (hi : (Try.prog.info? e).map (fun i => (i.zero, i.size, i.bytes)) = some (some z, size, bytes)) (hzs : z.cells.size = size) (hsz : 0 < size)
    (ho : o.op = .call { callee := .builtin .append, args := #[s, x], argTypes := #[t, t] })
    (base : Nat) (v : Value) (n : Nat) (L : List Value) (hs : a.eval s = v) (hown : w.ownsRow base e size v n L) (ad : Addr) (m c : Nat) (M : List Value) (hx : a.eval x = .slice (some ad) m c) (hl : M.length = m * size)
    (hM : ∀ j u, M[j]? = some u → w.cell? (ad.add j) = some u) (h1 : ∀ u ∈ M, u.oneCell' = true) (hn : n + m ≤ 1000000) (hb : bytes ≤ 1000) (hbase : base ≤ w.heap.size)
    (h : ∀ v' w', w'.ownsRow base e size v' (n + m) (L ++ M) → w.grownBy w' v.ownBlock → (v'.ownBlock = v.ownBlock ∨ v'.ownBlock = some w.heap.size) → wpList Try.prog ops Q rest (a.put o.dst v') w') : wpList Try.prog ops Q (o :: rest) a w :=
  wpList_plain hgd fun _ hK => wp_appg w s x t e z size bytes hu hi hzs hsz ho base v n L hs hown ad m c M hx hl hM h1 hn hb hbase fun v' w' h2 h3 h5 => hK _ _ (h v' w' h2 h3 h5)
/-- a row that lies in no elder block -/
def Fz (w : World) (A : Option Addr) (n : Nat) : Prop := 0 < n → ∀ ad, A = some ad → w.heap.size ≤ ad.block
theorem own_zx {w : World} {base k : Nat} {v : Value} {L : List Int} (h : w.ownsRow base 3 1 v k (zs L)) (hk : L.length = k) : ∃ A c, v = .slice A k c ∧ Zi w A k L := by
  obtain ⟨A, c, rfl, hp⟩ := own_any h
  rcases Nat.eq_zero_or_pos k with h0 | h0
  · exact ⟨A, c, rfl, hk, fun h => by omega⟩
  · obtain ⟨r, rfl⟩ := hp h0
    exact ⟨_, c, rfl, own_zi h hk⟩
theorem own_fz {w w0 : World} {base k c : Nat} {A : Option Addr} {L : List Int} (h : w.ownsRow base 3 1 (.slice A k c) k (zs L)) (hb : w0.heap.size ≤ base) : Fz w0 A k := fun h0 ad e => by
  obtain ⟨r, c', e', _, hr⟩ := row_form h h0
  injection e' with e1
  rw [e] at e1
  injection e1 with e1
  subst e1
  exact Nat.le_trans hb hr
theorem info_ivl : (Try.prog.info? 98).map (fun i => (i.zero, i.size, i.bytes)) = some (some (.agg #[.int .i64 0, .int .i64 0]), 2, 16) := by kernel_rfl
/-- two rows of intervals -/
structure Wr (g base : Nat) (w V : World) (u v : Value) (nu nv : Nat) (S B : List Rp) : Prop where
  ou : V.ownsRow base 98 2 u nu (rs S)
  ov : V.ownsRow base 98 2 v nv (rs B)
  ap : ∀ b, u.ownBlock = some b → v.ownBlock ≠ some b
  ok : Ok V g
  ch : Ch g w V
  sz : base ≤ V.heap.size
  gb : g < base
  wb : w.heap.size ≤ base
theorem Wr.sx {g base : Nat} {w V : World} {u v : Value} {nu nv : Nat} {S B : List Rp} (h : Wr g base w V u v nu nv S B) : Wr g base w V v u nv nu B S :=
  ⟨h.ov, h.ou, fun b e e2 => h.ap b e2 e, h.ok, h.ch, h.sz, h.gb, h.wb⟩
theorem Wr.to {g base : Nat} {w V V' : World} {u v : Value} {nu nv : Nat} {S B : List Rp} (h : Wr g base w V u v nu nv S B) (ho : Ok V' g) (hc : Ch g V V') : Wr g base w V' u v nu nv S B :=
  ⟨own_ch h.ou hc h.gb, own_ch h.ov hc h.gb, h.ap, ho, h.ch.tr hc, Nat.le_trans h.sz hc.sz, h.gb, h.wb⟩
theorem Wr.up {g base : Nat} {w V V' : World} {u v : Value} {nu nv : Nat} {S B : List Rp} (h : Wr g base w V u v nu nv S B) (hb : Bel V V') : Wr g base w V' u v nu nv S B := h.to (h.ok.bel hb) (Ch.of_bel hb)
theorem Wr.ax {g base : Nat} {w V V' : World} {u v u' : Value} {nu nv : Nat} {S B : List Rp} {s : Rp} (h : Wr g base w V u v nu nv S B)
    (h1 : V'.ownsRow base 98 2 u' (nu + 1) (rs (S ++ [s]))) (hg : V.grownBy V' u.ownBlock) (hat : u'.ownBlock = u.ownBlock ∨ u'.ownBlock = some V.heap.size) : Wr g base w V' u' v (nu + 1) nv (S ++ [s]) B := by
  refine ⟨h1, h.ov.kept hg (Classical.or_iff_not_imp_left.2 fun hn e => ?_), fun b e e2 => ?_, ok_grown h.ok hg (fun b e => ?_), ch_grown h.ch hg (fun b e => ?_), Nat.le_trans h.sz hg.size, h.gb, h.wb⟩
  · rcases hx : u.ownBlock with _ | q
    · rw [hx] at e; exact hn e
    · rw [hx] at e; exact h.ap q hx e
  · rcases hat with hat | hat
    · rw [hat] at e; exact h.ap b e e2
    · rw [hat] at e; cases e
      have := (h.ov.lt _ e2).2
      omega
  · have := (h.ou.lt b e).1; have := h.gb; omega
  · have := (h.ou.lt b e).1; have := h.wb; omega
theorem rs_snoc (S : List Rp) (s : Rp) : rs (S ++ [s]) = rs S ++ [.int .i64 s.1, .int .i64 s.2] := by simp [rs]
theorem row_zv {w : World} {base h c n : Nat} {L : List Rp} (hr : w.ownsRow base 98 2 (.slice (some ⟨h, 0, none⟩) n c) n (rs L)) (hl : L.length = n) : Zv w h n L := ⟨hl, fun p hp => by
  obtain ⟨e1, e2⟩ := rs_at L p (by omega)
  have a := hr.cells (g := h) rfl (p * 2) _ e1
  have b := hr.cells (g := h) rfl (p * 2 + 1) _ e2
  first | rw [add_row] at a b | skip
  exact ⟨a, b⟩⟩
/-- the intervals that are drawn, the narrow ones within the wide ones -/
def Nrw (p : Nat) (S B : List Rp) : Prop := S.length = p ∧ B.length = p ∧ ∀ i, i < p → -400 ≤ (S.getD i (0, 0)).1 ∧ (S.getD i (0, 0)).1 ≤ (B.getD i (0, 0)).1 ∧ (B.getD i (0, 0)).1 ≤ (B.getD i (0, 0)).2 ∧ (B.getD i (0, 0)).2 ≤ (S.getD i (0, 0)).2 ∧ (S.getD i (0, 0)).2 ≤ 700
theorem nrw_snoc {p : Nat} {S B : List Rp} {s b : Rp} (h : Nrw p S B) (h1 : -400 ≤ s.1) (h2 : s.1 ≤ b.1) (h3 : b.1 ≤ b.2) (h4 : b.2 ≤ s.2) (h5 : s.2 ≤ 700) : Nrw (p + 1) (S ++ [s]) (B ++ [b]) := by
  obtain ⟨lS, lB, hh⟩ := h
  refine ⟨by simp [lS], by simp [lB], fun i hi => ?_⟩
  rw [List.getD_eq_getElem?_getD (l := S ++ [s]), List.getD_eq_getElem?_getD (l := B ++ [b])]
  rcases Nat.lt_or_ge i p with q | q
  · rw [List.getElem?_append_left (by omega), List.getElem?_append_left (by omega), ← List.getD_eq_getElem?_getD, ← List.getD_eq_getElem?_getD]
    exact hh i q
  · obtain rfl : i = p := by omega
    rw [List.getElem?_append_right (by omega), List.getElem?_append_right (by omega), lS, lB, Nat.sub_self]
    exact ⟨h1, h2, h3, h4, h5⟩
/-- a new scheme for the normal measure -/
def SomeNm (q : Nat) (w : World) (e : Ending) (w' : World) : Prop := ∃ m n A nc cc C, e = .returned (Wd.Sx 3 0 0 m n A nc cc) ∧ Wd.Sv 3 0 0 m n C ∧ Zi w' A nc C ∧ Fz w A nc ∧ Ok w' q ∧ Ch q w w'
set_option maxHeartbeats 8000000 in
set_option maxRecDepth 100000 in
theorem normal_any (q : Nat) (w : World) (h : Ok w q) : Calls Try.prog 34 #[.pointer (some ⟨q, 0, none⟩)] w (SomeNm q w) := by
  have HGB := Lib.hid h.lt
  have HO0 := Lib.hid h
  have HR0 : Hid (Bk (w.alloc (.cells #[.int .i64 0, .int .i64 0, .int .i64 0, .int .i64 0, .int .i64 0, .slice none 0 0] 56)) w.heap.size 56 #[.int .i64 0, .int .i64 0, .int .i64 0, .int .i64 0, .int .i64 0, .slice none 0 0]) := Bk.nw _ _ _
  clear h
  go_enter Try.func34, Try.ntmps34
  go_wp2_with fail
  go_at_call 71
  refine (Wd.scheme_any q _ (HO0.out.bel (by repeat (first | exact Bel.rf | (with_reducible refine Bel.drwN ?_ _) | (with_reducible refine Bel.drw ?_) | (with_reducible refine Bel.al ?_ _))))).mono ?_
  rintro e w1 ⟨k, b, g, m, n, A, nc, cc, C, rfl, hs, hown, hCl, ho, hc⟩
  have HS := Lib.hid hs
  have HSN : Hid (Wd.Sv 3 0 0 m n C) := ⟨.inl ⟨.inr (.inr rfl), rfl, rfl⟩, hs.m2, hs.m32, hs.n1, hs.n8, hs.nm, hs.cv⟩
  have hc1 : Ch q w w1 := (Ch.of_bel (by repeat (first | exact Bel.rf | (with_reducible refine Bel.drwN ?_ _) | (with_reducible refine Bel.drw ?_) | (with_reducible refine Bel.al ?_ _)))).tr hc
  have HC1 := Lib.hid hc1
  have HO1 := Lib.hid ho
  have HR1 : Hid (Bk w1 w.heap.size 56 #[.int .i64 0, .int .i64 0, .int .i64 0, .int .i64 0, .int .i64 0, .slice none 0 0]) := hc.bk ((by repeat (first | exact HR0.out | (with_reducible refine Bk.drwN ?_ _) | (with_reducible refine Bk.drw ?_)))) (by have := HGB.out; omega)
  have hF : Fz w A nc := own_fz hown (by (try simp))
  have hF1 : 0 < nc → ∀ ad, A = some ad → ad.block ≠ w.heap.size := fun h0 ad e => by
    have : w.heap.size + 1 ≤ ad.block := by
      obtain ⟨r, c', e', _, hr⟩ := row_form hown h0
      injection e' with e1
      rw [e] at e1
      injection e1 with e1
      subst e1
      simpa using hr
    omega
  obtain ⟨A', c', e', hz⟩ := own_zx hown hCl
  cases e'
  have HZ := Lib.hid hz
  have HF := Lib.hid hF
  have HF1 := Lib.hid hF1
  have HL1 : Hid (w.heap.size < w1.heap.size) := HR1.out.lt
  clear hs hown hCl ho hc hc1 hF hF1 hz
  unfold Wd.Sx
  go_upto_region 3 with fail
  have HV2 : Hid (Bel w1 (w1.alloc (.cells #[.int .i64 3, .int .i64 0, .int .i64 0, .int .i64 (m : Int), .int .i64 (n : Int), .slice A nc cc] 56))) := Bel.rf.al _
  have HS2 : Hid (Bk (w1.alloc (.cells #[.int .i64 3, .int .i64 0, .int .i64 0, .int .i64 (m : Int), .int .i64 (n : Int), .slice A nc cc] 56)) w1.heap.size 56 #[.int .i64 3, .int .i64 0, .int .i64 0, .int .i64 (m : Int), .int .i64 (n : Int), .slice A nc cc]) := Bk.nw _ _ _
  have HZV : Hid (Zi (w1.alloc (.cells #[.int .i64 3, .int .i64 0, .int .i64 0, .int .i64 (m : Int), .int .i64 (n : Int), .slice A nc cc] 56)) A nc C) := HZ.out.bel (Bel.rf.al _)
  obtain ⟨v2, hv2⟩ : ∃ V, w1.alloc (.cells #[.int .i64 3, .int .i64 0, .int .i64 0, .int .i64 (m : Int), .int .i64 (n : Int), .slice A nc cc] 56) = V := ⟨_, rfl⟩
  obtain ⟨s, hs1⟩ : ∃ s, w1.heap.size = s := ⟨_, rfl⟩
  have hsn : s ≠ w.heap.size := by have := HL1.out; omega
  have HSN2 := Lib.hid hsn
  rw [hv2] at HV2 HS2 HZV ⊢
  rw [hs1] at HS2 ⊢
  have HR2 := Lib.hid (HR1.out.bel HV2.out)
  have r0 := HR2.out.cell 0
  have r1 := HR2.out.cell 1
  have r2 := HR2.out.cell 2
  have r3 := HR2.out.cell 3
  have r4 := HR2.out.cell 4
  have r5 := HR2.out.cell 5
  have u0 := HS2.out.cell 0
  have u1 := HS2.out.cell 1
  have u2 := HS2.out.cell 2
  have u3 := HS2.out.cell 3
  have u4 := HS2.out.cell 4
  have u5 := HS2.out.cell 5
  have e0 := HR2.out.fr 0
  have e1 := HR2.out.fr 1
  have e2 := HR2.out.fr 2
  have e3 := HR2.out.fr 3
  have e4 := HR2.out.fr 4
  have e5 := HR2.out.fr 5
  simp only [List.getElem?_toArray, List.getElem?_cons_zero, List.getElem?_cons_succ] at r0 r1 r2 r3 r4 r5 u0 u1 u2 u3 u4 u5
  have HCV : Hid (Ch q w v2) := HC1.out.tr (Ch.of_bel HV2.out)
  have HOV : Hid (Ok v2 q) := HO1.out.bel HV2.out
  clear hv2 hs1
  go_wp2
  exact bodyPost_ret (v := Wd.Sx 3 0 0 m n A nc cc) (Wd.results_s Try.results34 _ _ w.heap.size _ _ _ _ _ _ rfl ((((((HR2.out.st 0 _).st 1 _).st 2 _).st 3 _).st 4 _).st 5 _)) rfl ⟨m, n, A, nc, cc, C, rfl, HSN.out, ⟨HZV.out.1, fun h0 => (HZV.out.ch ((((((((Ch.rf (g := w.heap.size)).st 0 _).st 1 _).st 2 _).st 3 _).st 4 _).st 5 _)) (HF1.out h0)).2 h0⟩, HF.out, ((((((HOV.out.st HGB.out _).st HGB.out _).st HGB.out _).st HGB.out _).st HGB.out _).st HGB.out _), ((((((HCV.out.st2 (Nat.le_refl _) _).st2 (Nat.le_refl _) _).st2 (Nat.le_refl _) _).st2 (Nat.le_refl _) _).st2 (Nat.le_refl _) _).st2 (Nat.le_refl _) _)⟩
end Go.Proofs.Ytmgdoglnckkobaa.Sk
namespace Go.Proofs.Ytmgdoglnckkobaa.Rt
/-- N times the root of E, rounded down -/
def ro (E N : Int) : Int := isq (E * (N * N))
theorem ro_nn (E N : Int) : 0 ≤ ro E N := isq_nonneg _
theorem sq_nn (x : Int) : 0 ≤ x * x := by
  rcases Int.le_total 0 x with h | h
  · exact Int.mul_nonneg h h
  · have e : x * x = (-x) * (-x) := by grind
    rw [e]; exact Int.mul_nonneg (by omega) (by omega)
theorem ro_le {E N : Int} (hE : 0 ≤ E) : ro E N * ro E N ≤ E * (N * N) := isq_le (Int.mul_nonneg hE (sq_nn N))
theorem ro_lt {E N : Int} (hE : 0 ≤ E) : E * (N * N) < (ro E N + 1) * (ro E N + 1) := isq_lt (Int.mul_nonneg hE (sq_nn N))
/-- the root is at most the number, times N -/
theorem ro_lin {E N : Int} (hE : 0 ≤ E) (hN : 0 ≤ N) : ro E N ≤ E * N := by
  apply of_sq_le _ (Int.mul_nonneg hE hN)
  have h := ro_le (N := N) hE
  have e : E * N * (E * N) = E * E * (N * N) := by grind
  rw [e]
  rcases Int.lt_or_le E 1 with h1 | h1
  · have : E = 0 := by omega
    subst this; simpa using h
  · have := mul_le (a := E) (b := E * E) (e := N * N) (by have := mul_le (a := 1) (b := E) (e := E) h1 hE; omega) (sq_nn N)
    omega
/-- what holds for every N from some N on holds without the error -/
theorem lim_le {X C D M : Int} (h : ∀ N, 1 ≤ N → M ≤ N → X * (N * N) ≤ C * N + D) : X ≤ 0 := by
  rcases Int.lt_or_le X 1 with h1 | h1
  · omega
  · exfalso
    have ⟨c, c0, c1⟩ : ∃ c, 0 ≤ c ∧ C ≤ c := ⟨if 0 ≤ C then C else 0, by split <;> omega, by split <;> omega⟩
    have ⟨d, d0, d1⟩ : ∃ d, 0 ≤ d ∧ D ≤ d := ⟨if 0 ≤ D then D else 0, by split <;> omega, by split <;> omega⟩
    have ⟨m, m0, m1⟩ : ∃ m, 0 ≤ m ∧ M ≤ m := ⟨if 0 ≤ M then M else 0, by split <;> omega, by split <;> omega⟩
    have k := h (c + d + m + 1) (by omega) (by omega)
    have n0 : (0 : Int) ≤ c + d + m + 1 := by omega
    have a1 := mul_le (a := 1) (b := X) (e := (c + d + m + 1) * (c + d + m + 1)) h1 (sq_nn _)
    have a2 := mul_le (a := C) (b := c) (e := c + d + m + 1) c1 n0
    have a3 := mul_le (a := c + d + 1) (b := c + d + m + 1) (e := c + d + m + 1) (by omega) n0
    have a4 := mul_le (a := 1) (b := c + d + m + 1) (e := d) (by omega) d0
    have e1 : (c + d + 1) * (c + d + m + 1) = c * (c + d + m + 1) + (c + d + m + 1) * d + (c + d + m + 1) := by grind
    omega
/-- a bound by a product of two roots, the error gone: at least 0 -/
theorem two_up {P E G H C : Int} (hE : 0 ≤ E) (hG : 0 ≤ G) (hP : 0 ≤ P) (h : ∀ N, 1 ≤ N → P * (ro E N * ro G N) ≤ H * (N * N) + C * N) :
    0 ≤ H ∧ P * P * (E * G) ≤ H * H := by
  have key : ∀ N, 1 ≤ N → 0 ≤ H * N + (C + P * (E + G + 1)) ∧ P * P * (E * G) * (N * N) ≤ (H * N + (C + P * (E + G + 1))) * (H * N + (C + P * (E + G + 1))) := by
    intro N hN
    have k := h N hN
    have n0 : 0 ≤ N := by omega
    have a := ro_nn E N
    have b := ro_nn G N
    have al := ro_lin hE n0
    have bl := ro_lin hG n0
    have au := ro_lt (N := N) hE
    have bu := ro_lt (N := N) hG
    have s : P * (ro E N + ro G N + 1) ≤ P * ((E + G + 1) * N) := by
      apply Int.mul_le_mul_of_nonneg_left _ hP
      have : (E + G + 1) * N = E * N + G * N + N := by grind
      omega
    have t : P * ((ro E N + 1) * (ro G N + 1)) ≤ (H * N + (C + P * (E + G + 1))) * N := by
      have e1 : P * ((ro E N + 1) * (ro G N + 1)) = P * (ro E N * ro G N) + P * (ro E N + ro G N + 1) := by grind
      have e2 : (H * N + (C + P * (E + G + 1))) * N = H * (N * N) + C * N + P * ((E + G + 1) * N) := by grind
      rw [e1, e2]; omega
    have t0 : 0 ≤ P * ((ro E N + 1) * (ro G N + 1)) := Int.mul_nonneg hP (Int.mul_nonneg (by omega) (by omega))
    have x0 : 0 ≤ H * N + (C + P * (E + G + 1)) := by
      rcases Int.lt_or_le (H * N + (C + P * (E + G + 1))) 0 with hx | hx
      · have := mul_le (a := H * N + (C + P * (E + G + 1))) (b := -1) (e := N) (by omega) n0
        omega
      · exact hx
    refine ⟨x0, ?_⟩
    have q := mul_mono t t t0 t0
    have p1 : E * (N * N) * (G * (N * N)) ≤ (ro E N + 1) * (ro E N + 1) * ((ro G N + 1) * (ro G N + 1)) :=
      mul_mono (by omega) (by omega) (Int.mul_nonneg hE (sq_nn N)) (Int.mul_nonneg hG (sq_nn N))
    have p2 := Int.mul_le_mul_of_nonneg_left p1 (sq_nn P)
    have e3 : P * P * ((ro E N + 1) * (ro E N + 1) * ((ro G N + 1) * (ro G N + 1))) = P * ((ro E N + 1) * (ro G N + 1)) * (P * ((ro E N + 1) * (ro G N + 1))) := by grind
    have e4 : P * P * (E * (N * N) * (G * (N * N))) = P * P * (E * G) * (N * N) * (N * N) := by grind
    have e5 : (H * N + (C + P * (E + G + 1))) * N * ((H * N + (C + P * (E + G + 1))) * N) = (H * N + (C + P * (E + G + 1))) * (H * N + (C + P * (E + G + 1))) * (N * N) := by grind
    apply mul_cancel_le (e := N * N) _ (Int.mul_pos (by omega) (by omega))
    rw [← e4, ← e5]; omega
  constructor
  · have := lim_le (X := -H) (C := C + P * (E + G + 1)) (D := 0) (M := 1) (fun N hN _ => by
      have k := mul_le (e := N) (key N hN).1 (by omega)
      have e1 : (H * N + (C + P * (E + G + 1))) * N = H * (N * N) + (C + P * (E + G + 1)) * N := by grind
      have e2 : -H * (N * N) = -(H * (N * N)) := by grind
      rw [e2]; omega)
    omega
  · have := lim_le (X := P * P * (E * G) - H * H) (C := 2 * H * (C + P * (E + G + 1))) (D := (C + P * (E + G + 1)) * (C + P * (E + G + 1))) (M := 1) (fun N hN _ => by
      have k := (key N hN).2
      have e1 : (P * P * (E * G) - H * H) * (N * N) = P * P * (E * G) * (N * N) - H * H * (N * N) := by grind
      have e2 : (H * N + (C + P * (E + G + 1))) * (H * N + (C + P * (E + G + 1))) = H * H * (N * N) + 2 * H * (C + P * (E + G + 1)) * N + (C + P * (E + G + 1)) * (C + P * (E + G + 1)) := by grind
      rw [e1]; omega)
    omega
/-- the same for a bound below 0 -/
theorem two_dn {P E G H C : Int} (hE : 0 ≤ E) (hG : 0 ≤ G) (hH : H < 0) (h : ∀ N, 1 ≤ N → P * (ro E N * ro G N) ≤ H * (N * N) + C * N) :
    P < 0 ∧ H * H ≤ P * P * (E * G) := by
  have hp : P < 0 := by
    rcases Int.lt_or_le P 0 with h1 | h1
    · exact h1
    · have := (two_up hE hG h1 h).1; omega
  refine ⟨hp, ?_⟩
  have := lim_le (X := H * H - P * P * (E * G)) (C := -2 * H * C) (D := -(C * C)) (M := C) (fun N hN hM => by
    have k := h N hN
    have n0 : 0 ≤ N := by omega
    have a := ro_nn E N
    have b := ro_nn G N
    have x0 : 0 ≤ -H * N - C := by
      have := mul_le (a := 1) (b := -H) (e := N) (by omega) n0
      omega
    have t : (-H * N - C) * N ≤ -P * (ro E N * ro G N) := by
      have e1 : (-H * N - C) * N = -(H * (N * N) + C * N) := by grind
      have e2 : -P * (ro E N * ro G N) = -(P * (ro E N * ro G N)) := by grind
      rw [e1, e2]; omega
    have t0 : 0 ≤ (-H * N - C) * N := Int.mul_nonneg x0 n0
    have q := mul_mono t t t0 t0
    have p1 : ro E N * ro E N * (ro G N * ro G N) ≤ E * (N * N) * (G * (N * N)) := mul_mono (ro_le hE) (ro_le hG) (sq_nn _) (sq_nn _)
    have p2 := Int.mul_le_mul_of_nonneg_left p1 (sq_nn P)
    have e3 : P * P * (ro E N * ro E N * (ro G N * ro G N)) = -P * (ro E N * ro G N) * (-P * (ro E N * ro G N)) := by grind
    have e4 : P * P * (E * (N * N) * (G * (N * N))) = P * P * (E * G) * (N * N) * (N * N) := by grind
    have e5 : (-H * N - C) * N * ((-H * N - C) * N) = (H * H * (N * N) + 2 * H * C * N + C * C) * (N * N) := by grind
    have r : H * H * (N * N) + 2 * H * C * N + C * C ≤ P * P * (E * G) * (N * N) := by
      apply mul_cancel_le (e := N * N) _ (Int.mul_pos (by omega) (by omega))
      rw [← e4, ← e5]; omega
    have e6 : (H * H - P * P * (E * G)) * (N * N) = H * H * (N * N) - P * P * (E * G) * (N * N) := by grind
    have e7 : -2 * H * C * N = -(2 * H * C * N) := by grind
    rw [e6, e7]; omega)
  omega
/-- the quotient by a root, in squares: not below 0 -/
theorem quo_sq {t e : Int} (he : 1 ≤ e) (ht : 0 ≤ t) : 0 ≤ quo t e ∧ quo t e * quo t e * e ≤ t * t ∧ t * t < (quo t e + 1) * (quo t e + 1) * e := by
  rw [quo_pos ht]
  have d := Int.ediv_nonneg (sq_nn t) (b := e) (by omega)
  have m := div_mul (a := t * t) he
  have q := isq_le d
  have q2 := isq_lt d
  refine ⟨isq_nonneg _, ?_, ?_⟩
  · have := mul_le (e := e) q (by omega); omega
  · have := mul_le (a := t * t / e + 1) (e := e) q2 (by omega)
    have e1 : (t * t / e + 1) * e = t * t / e * e + e := by grind
    omega
/-- the same below 0: the quotient is -r, rounded away from 0 -/
theorem quo_sq2 {t e : Int} (he : 1 ≤ e) (ht : t < 0) : ∃ r, quo t e = -r ∧ 1 ≤ r ∧ t * t ≤ r * r * e ∧ (r - 1) * (r - 1) * e < t * t := by
  have d := Int.ediv_nonneg (sq_nn t) (b := e) (by omega)
  have m := div_mul (a := t * t) he
  have q := isq_le d
  have q2 := isq_lt d
  have l1 := mul_le (e := e) q (by omega)
  have l2 := mul_le (a := t * t / e + 1) (e := e) q2 (by omega)
  have e1 : (t * t / e + 1) * e = t * t / e * e + e := by grind
  have s0 := isq_nonneg (t * t / e)
  have tp : 0 < t * t := by have := Int.mul_pos (a := -t) (b := -t) (by omega) (by omega); have e : -t * -t = t * t := by grind
                            omega
  rcases Int.lt_or_le (isq (t * t / e) * isq (t * t / e) * e) (t * t) with c | c
  · refine ⟨isq (t * t / e) + 1, quo_up ht c, by omega, by omega, ?_⟩
    have e2 : (isq (t * t / e) + 1 - 1) * (isq (t * t / e) + 1 - 1) * e = isq (t * t / e) * isq (t * t / e) * e := by grind
    omega
  · have s1 : 1 ≤ isq (t * t / e) := by
      rcases Int.lt_or_le (isq (t * t / e)) 1 with z | z
      · have z2 : isq (t * t / e) = 0 := by omega
        rw [z2] at c; omega
      · exact z
    refine ⟨isq (t * t / e), quo_eq ht (by omega), s1, c, ?_⟩
    have e2 : (isq (t * t / e) - 1) * (isq (t * t / e) - 1) * e = isq (t * t / e) * isq (t * t / e) * e - 2 * (isq (t * t / e) * e) + e := by grind
    have := mul_le (a := 1) (e := e) s1 (by omega)
    omega
def ab (x : Int) : Int := if 0 ≤ x then x else -x
/-- N times a number lies between the roots that its quotient stands for -/
theorem quo_ro {t e N : Int} (he : 1 ≤ e) (hN : 0 ≤ N) : quo t e * ro e N - ab (quo t e) ≤ N * t ∧ N * t ≤ (quo t e + 1) * ro e N + ab (quo t e + 1) := by
  have a := ro_nn e N
  have al := ro_le (E := e) (N := N) (by omega)
  have au := ro_lt (E := e) (N := N) (by omega)
  rcases Int.lt_or_le t 0 with ht | ht
  · obtain ⟨r, hq, r1, h1, h2⟩ := quo_sq2 he ht
    rw [hq]
    unfold ab
    rw [if_neg (by omega)]
    constructor
    · have k : N * -t ≤ r * (ro e N + 1) := by
        apply of_sq_le _ (Int.mul_nonneg (by omega) (by omega))
        have m1 := Int.mul_le_mul_of_nonneg_left h1 (sq_nn N)
        have m2 := Int.mul_le_mul_of_nonneg_left (Int.le_of_lt au) (sq_nn r)
        have e1 : N * -t * (N * -t) = N * N * (t * t) := by grind
        have e2 : r * (ro e N + 1) * (r * (ro e N + 1)) = r * r * ((ro e N + 1) * (ro e N + 1)) := by grind
        have e3 : N * N * (r * r * e) = r * r * (e * (N * N)) := by grind
        rw [e1, e2]; omega
      have e1 : N * -t = -(N * t) := by grind
      have e2 : r * (ro e N + 1) = r * ro e N + r := by grind
      have e3 : -r * ro e N = -(r * ro e N) := by grind
      omega
    · have k : (r - 1) * ro e N ≤ N * -t := by
        apply of_sq_le _ (Int.mul_nonneg hN (by omega))
        have m1 := Int.mul_le_mul_of_nonneg_left (Int.le_of_lt h2) (sq_nn N)
        have m2 := Int.mul_le_mul_of_nonneg_left al (sq_nn (r - 1))
        have e1 : N * -t * (N * -t) = N * N * (t * t) := by grind
        have e2 : (r - 1) * ro e N * ((r - 1) * ro e N) = (r - 1) * (r - 1) * (ro e N * ro e N) := by grind
        have e3 : N * N * ((r - 1) * (r - 1) * e) = (r - 1) * (r - 1) * (e * (N * N)) := by grind
        rw [e1, e2]; omega
      have e1 : N * -t = -(N * t) := by grind
      have e2 : (r - 1) * ro e N = -((-r + 1) * ro e N) := by grind
      split <;> omega
  · obtain ⟨q0, h1, h2⟩ := quo_sq he ht
    unfold ab
    rw [if_pos q0, if_pos (by omega)]
    have nt : 0 ≤ N * t := Int.mul_nonneg hN ht
    constructor
    · have k : quo t e * ro e N ≤ N * t := by
        apply of_sq_le _ nt
        have m1 := Int.mul_le_mul_of_nonneg_left h1 (sq_nn N)
        have m2 := Int.mul_le_mul_of_nonneg_left al (sq_nn (quo t e))
        have e1 : N * t * (N * t) = N * N * (t * t) := by grind
        have e2 : quo t e * ro e N * (quo t e * ro e N) = quo t e * quo t e * (ro e N * ro e N) := by grind
        have e3 : N * N * (quo t e * quo t e * e) = quo t e * quo t e * (e * (N * N)) := by grind
        rw [e1, e2]; omega
      omega
    · have k : N * t ≤ (quo t e + 1) * (ro e N + 1) := by
        apply of_sq_le _ (Int.mul_nonneg (by omega) (by omega))
        have m1 := Int.mul_le_mul_of_nonneg_left (Int.le_of_lt h2) (sq_nn N)
        have m2 := Int.mul_le_mul_of_nonneg_left (Int.le_of_lt au) (sq_nn (quo t e + 1))
        have e1 : N * t * (N * t) = N * N * (t * t) := by grind
        have e2 : (quo t e + 1) * (ro e N + 1) * ((quo t e + 1) * (ro e N + 1)) = (quo t e + 1) * (quo t e + 1) * ((ro e N + 1) * (ro e N + 1)) := by grind
        have e3 : N * N * ((quo t e + 1) * (quo t e + 1) * e) = (quo t e + 1) * (quo t e + 1) * (e * (N * N)) := by grind
        rw [e1, e2]; omega
      have e2 : (quo t e + 1) * (ro e N + 1) = (quo t e + 1) * ro e N + (quo t e + 1) := by grind
      omega
end Go.Proofs.Ytmgdoglnckkobaa.Rt
namespace Go.Proofs.Ytmgdoglnckkobaa.Wi
open Ra
open Rt (ro ro_nn ro_le ro_lt ro_lin quo quo_ro ab)
set_option linter.unusedVariables false
/-- a distance that a difference keeps, up to an error, in squares -/
theorem far_sq {d a b K N z : Int} (hd : 0 ≤ d) (ha : 0 ≤ a) (hb : 0 ≤ b) (hK : 0 ≤ K) (h : d * (a * b) - K * (a + b) ≤ 1024 * N * z ∨ d * (a * b) - K * (a + b) ≤ -(1024 * N * z)) :
    d * d * (a * b * (a * b)) - 2 * d * K * (a * b * (a + b)) ≤ 1048576 * (N * N) * (z * z) := by
  have u0 : 0 ≤ d * (a * b) := Int.mul_nonneg hd (Int.mul_nonneg ha hb)
  have v0 : 0 ≤ K * (a + b) := Int.mul_nonneg hK (by omega)
  have e1 : d * d * (a * b * (a * b)) = d * (a * b) * (d * (a * b)) := by grind
  have e2 : 2 * d * K * (a * b * (a + b)) = 2 * (d * (a * b) * (K * (a + b))) := by grind
  have e3 : 1048576 * (N * N) * (z * z) = 1024 * N * z * (1024 * N * z) := by grind
  rw [e1, e2, e3]
  obtain ⟨u, hu⟩ : ∃ u, d * (a * b) = u := ⟨_, rfl⟩
  obtain ⟨v, hv⟩ : ∃ v, K * (a + b) = v := ⟨_, rfl⟩
  obtain ⟨x, hx⟩ : ∃ x, 1024 * N * z = x := ⟨_, rfl⟩
  rw [hu, hv, hx] at h
  rw [hu] at u0 ⊢
  rw [hv] at v0 ⊢
  rw [hx]
  have x0 := Rt.sq_nn x
  have uv := Int.mul_nonneg u0 v0
  have vv := Rt.sq_nn v
  rcases Int.lt_or_le u v with c | c
  · have := Int.mul_le_mul_of_nonneg_left (Int.le_of_lt c) u0
    omega
  · have e4 : (u - v) * (u - v) = u * u - 2 * (u * v) + v * v := by grind
    have q : (u - v) * (u - v) ≤ x * x := by
      rcases h with h | h
      · exact Rt.sq_mono h (by omega)
      · have := Rt.sq_mono h (by omega)
        have e5 : -x * -x = x * x := by grind
        omega
    omega
/-- the error of a piece -/
def ek (c q : Int) : Int := 16 * ab c + 16 * ab (c + 1) + ab q + ab (q + 1)
theorem ab_nn (x : Int) : 0 ≤ ab x := by unfold ab; split <;> omega
theorem ek_nn (c q : Int) : 0 ≤ ek c q := by
  have := ab_nn c; have := ab_nn (c + 1); have := ab_nn q; have := ab_nn (q + 1)
  unfold ek; omega
/-- a coordinate in an interval, and one that is d away from it: so far apart are the sums -/
theorem far_lo {S T E G N lo hi d : Int} (hE : 1 ≤ E) (hG : 1 ≤ G) (hN : 0 ≤ N) (hl : lo ≤ quo (64 * S) G) (hh : quo (64 * S) G ≤ hi) (hd : 0 ≤ d)
    (h : d ≤ max 0 (max (16 * lo - (quo (1024 * T) E + 1)) (quo (1024 * T) E - 16 * (hi + 1)))) :
    d * (ro E N * ro G N) - ek (quo (64 * S) G) (quo (1024 * T) E) * (ro E N + ro G N) ≤ 1024 * N * (ro E N * S - ro G N * T) ∨
    d * (ro E N * ro G N) - ek (quo (64 * S) G) (quo (1024 * T) E) * (ro E N + ro G N) ≤ -(1024 * N * (ro E N * S - ro G N * T)) := by
  have s := quo_ro (t := 64 * S) hG hN
  have t := quo_ro (t := 1024 * T) hE hN
  have a0 := ro_nn E N
  have b0 := ro_nn G N
  obtain ⟨c, hc⟩ : ∃ x, quo (64 * S) G = x := ⟨_, rfl⟩
  obtain ⟨q, hq⟩ : ∃ x, quo (1024 * T) E = x := ⟨_, rfl⟩
  obtain ⟨a, ha⟩ : ∃ x, ro E N = x := ⟨_, rfl⟩
  obtain ⟨b, hb⟩ : ∃ x, ro G N = x := ⟨_, rfl⟩
  rw [hc] at s hl hh ⊢
  rw [hq] at t h ⊢
  rw [ha] at a0 t ⊢
  rw [hb] at b0 s ⊢
  have ab0 := Int.mul_nonneg a0 b0
  have k1 := ab_nn c
  have k2 := ab_nn (c + 1)
  have k3 := ab_nn q
  have k4 := ab_nn (q + 1)
  obtain ⟨c1, h1⟩ : ∃ x, ab c = x := ⟨_, rfl⟩
  obtain ⟨c2, h2⟩ : ∃ x, ab (c + 1) = x := ⟨_, rfl⟩
  obtain ⟨c3, h3⟩ : ∃ x, ab q = x := ⟨_, rfl⟩
  obtain ⟨c4, h4⟩ : ∃ x, ab (q + 1) = x := ⟨_, rfl⟩
  unfold ek
  rw [h1] at k1 s ⊢
  rw [h2] at k2 s ⊢
  rw [h3] at k3 t ⊢
  rw [h4] at k4 t ⊢
  have m1a := Int.mul_nonneg k1 a0
  have m1b := Int.mul_nonneg k1 b0
  have m2a := Int.mul_nonneg k2 a0
  have m2b := Int.mul_nonneg k2 b0
  have m3a := Int.mul_nonneg k3 a0
  have m3b := Int.mul_nonneg k3 b0
  have m4a := Int.mul_nonneg k4 a0
  have m4b := Int.mul_nonneg k4 b0
  have e0 : (16 * c1 + 16 * c2 + c3 + c4) * (a + b) = 16 * (c1 * a) + 16 * (c1 * b) + 16 * (c2 * a) + 16 * (c2 * b) + c3 * a + c3 * b + c4 * a + c4 * b := by grind
  have e1 : 1024 * N * (a * S - b * T) = 16 * (a * (N * (64 * S))) - b * (N * (1024 * T)) := by grind
  rw [e0, e1]
  by_cases z : d ≤ 0
  · have d0 : d = 0 := by omega
    rw [d0, Int.zero_mul]
    omega
  · by_cases y : d ≤ 16 * lo - (q + 1)
    · left
      have x1 := Int.mul_le_mul_of_nonneg_left s.1 a0
      have x2 := Int.mul_le_mul_of_nonneg_left t.2 b0
      have x3 := Int.mul_le_mul_of_nonneg_right (show d ≤ 16 * c - (q + 1) by omega) ab0
      have f1 : a * (c * b - c1) = c * (a * b) - c1 * a := by grind
      have f2 : b * ((q + 1) * a + c4) = (q + 1) * (a * b) + c4 * b := by grind
      have f3 : (16 * c - (q + 1)) * (a * b) = 16 * (c * (a * b)) - (q + 1) * (a * b) := by grind
      omega
    · right
      have x1 := Int.mul_le_mul_of_nonneg_left s.2 a0
      have x2 := Int.mul_le_mul_of_nonneg_left t.1 b0
      have x3 := Int.mul_le_mul_of_nonneg_right (show d ≤ q - 16 * (c + 1) by omega) ab0
      have f1 : a * ((c + 1) * b + c2) = (c + 1) * (a * b) + c2 * a := by grind
      have f2 : b * (q * a - c3) = q * (a * b) - c3 * b := by grind
      have f3 : (q - 16 * (c + 1)) * (a * b) = q * (a * b) - 16 * ((c + 1) * (a * b)) := by grind
      omega
theorem pg_lc2 (s t : Int) (X Y : List Int) (h : X.length = Y.length) (i j : Nat) : pg (lc s t X Y) i j = s * pg X i j + t * pg Y i j := by
  have e : ((lc s t X Y).drop i).take (j - i) = lc s t ((X.drop i).take (j - i)) ((Y.drop i).take (j - i)) := by
    unfold lc; rw [List.drop_zipWith, List.take_zipWith]
  unfold pg
  rw [e, su_ix, su_ix, su_ix, lc_su _ _ _ _ (by simp [h])]
/-- the sum of a piece -/
def pk (X : List Int) (m n k : Nat) : Int := pg X (st m n k) (st m n (k + 1))
def wk (m n k : Nat) : Int := wq (m / n) (st m n (k + 1) - st m n k)
/-- the differences of the sums of the pieces, each weighed, against the whole -/
theorem reg_sum (a b : Int) (V U : List Int) (m n : Nat) (hV : V.length = m) (hU : U.length = m) (n1 : 1 ≤ n) :
    tq (fun k => wk m n k * ((a * pk V m n k - b * pk U m n k) * (a * pk V m n k - b * pk U m n k))) n ≤ (a * a * su sq V - 2 * (a * b) * dot V U + b * b * su sq U) * cq m n := by
  have h := bq_le (lc a (-b) V U) m n (by rw [lc_len _ _ (by omega), hV]) n1
  rw [lc_sq _ _ _ _ (by omega)] at h
  have e1 : a * a * su sq V + 2 * (a * -b) * dot V U + -b * -b * su sq U = a * a * su sq V - 2 * (a * b) * dot V U + b * b * su sq U := by grind
  rw [e1] at h
  refine Int.le_trans (Int.le_of_eq ?_) h
  unfold bq
  refine tq_cong (n := n) (fun k hk => ?_) n (Nat.le_refl n)
  show wk m n k * _ = _
  rw [pg_lc2 _ _ _ _ (by omega)]
  unfold wk pk
  grind
/-- the excess of the pieces against the product of two windows, for every scale -/
theorem reg_lim (V U : List Int) (m n : Nat) (hV : V.length = m) (hU : U.length = m) (n1 : 1 ≤ n) (hE : 1 ≤ su sq U) (hG : 1 ≤ su sq V) (d lo hi : Nat → Int) (hd : ∀ k, k < n → 0 ≤ d k)
    (hl : ∀ k, k < n → lo k ≤ quo (64 * pk V m n k) (su sq V) ∧ quo (64 * pk V m n k) (su sq V) ≤ hi k)
    (h : ∀ k, k < n → d k ≤ max 0 (max (16 * lo k - (quo (1024 * pk U m n k) (su sq U) + 1)) (quo (1024 * pk U m n k) (su sq U) - 16 * (hi k + 1)))) :
    ∃ C, ∀ N, 1 ≤ N → 2097152 * cq m n * dot V U * (ro (su sq U) N * ro (su sq V) N) ≤ su sq U * su sq V * (2097152 * cq m n - tq (fun k => wk m n k * (d k * d k)) n) * (N * N) + C * N := by
  obtain ⟨E, eE⟩ : ∃ x, su sq U = x := ⟨_, rfl⟩
  obtain ⟨G, eG⟩ : ∃ x, su sq V = x := ⟨_, rfl⟩
  obtain ⟨Q, eQ⟩ : ∃ x, cq m n = x := ⟨_, rfl⟩
  obtain ⟨P, eP⟩ : ∃ x, dot V U = x := ⟨_, rfl⟩
  have hQ : 0 ≤ Q := by rw [← eQ]; unfold cq; exact Int.mul_nonneg (Int.natCast_nonneg _) (Int.add_nonneg (Int.natCast_nonneg _) (by decide))
  rw [eE] at hE h
  rw [eG] at hG hl
  have wn : ∀ k, 0 ≤ wk m n k := fun k => wq_nn _ _
  obtain ⟨W, eW⟩ : ∃ x, tq (fun k => wk m n k * (d k * d k)) n = x := ⟨_, rfl⟩
  obtain ⟨Y, eY⟩ : ∃ x, tq (fun k => wk m n k * (2 * d k * ek (quo (64 * pk V m n k) G) (quo (1024 * pk U m n k) E))) n = x := ⟨_, rfl⟩
  have W0 : 0 ≤ W := by rw [← eW]; exact tq_nn (n := n) (fun k _ => Int.mul_nonneg (wn k) (Rt.sq_nn _)) n (Nat.le_refl n)
  have Y0 : 0 ≤ Y := by rw [← eY]; exact tq_nn (n := n) (fun k hk => Int.mul_nonneg (wn k) (Int.mul_nonneg (Int.mul_nonneg (by omega) (hd k hk)) (ek_nn _ _))) n (Nat.le_refl n)
  rw [eE, eG, eQ, eP, eW]
  refine ⟨W * (2 * (E * G * (E + G + 1)) + (E + G + 1) * (E + G + 1)) + Y * (E * G * (E + G + 1)), fun N hN => ?_⟩
  have n0 : 0 ≤ N := by omega
  have a0 := ro_nn E N
  have b0 := ro_nn G N
  have al := ro_lin (E := E) (by omega) n0
  have bl := ro_lin (E := G) (by omega) n0
  have a2 := ro_le (E := E) (N := N) (by omega)
  have b2 := ro_le (E := G) (N := N) (by omega)
  have a3 := ro_lt (E := E) (N := N) (by omega)
  have b3 := ro_lt (E := G) (N := N) (by omega)
  have S := reg_sum (ro E N) (ro G N) V U m n hV hU n1
  have L : tq (fun k => ro E N * ro G N * (ro E N * ro G N) * (wk m n k * (d k * d k)) + -(ro E N * ro G N * (ro E N + ro G N)) * (wk m n k * (2 * d k * ek (quo (64 * pk V m n k) G) (quo (1024 * pk U m n k) E)))) n ≤ tq (fun k => 1048576 * (N * N) * (wk m n k * ((ro E N * pk V m n k - ro G N * pk U m n k) * (ro E N * pk V m n k - ro G N * pk U m n k)))) n := by
    refine tq_le (n := n) (fun k hk => ?_) n (Nat.le_refl n)
    have f := far_lo (S := pk V m n k) (T := pk U m n k) hE hG n0 (hl k hk).1 (hl k hk).2 (hd k hk) (h k hk)
    have g := far_sq (hd k hk) a0 b0 (ek_nn _ _) f
    have w := Int.mul_le_mul_of_nonneg_left g (wn k)
    refine Int.le_trans (Int.le_of_eq ?_) (Int.le_trans w (Int.le_of_eq ?_)) <;> grind
  rw [tq_add, tq_mul, tq_mul, tq_mul, eW, eY] at L
  rw [eE, eG, eQ, eP] at S
  obtain ⟨a, ea⟩ : ∃ x, ro E N = x := ⟨_, rfl⟩
  obtain ⟨b, eb⟩ : ∃ x, ro G N = x := ⟨_, rfl⟩
  rw [ea, eb] at S L
  rw [ea, eb]
  rw [ea] at a0 al a2 a3
  rw [eb] at b0 bl b2 b3
  have nn := Rt.sq_nn N
  have S2 := Int.mul_le_mul_of_nonneg_left S (show 0 ≤ 1048576 * (N * N) by omega)
  have T1 : (a * a * G - 2 * (a * b) * P + b * b * E) * Q ≤ (2 * (E * G * (N * N)) - 2 * (a * b) * P) * Q := by
    apply Int.mul_le_mul_of_nonneg_right _ hQ
    have x1 := Int.mul_le_mul_of_nonneg_right a2 (show 0 ≤ G by omega)
    have x2 := Int.mul_le_mul_of_nonneg_right b2 (show 0 ≤ E by omega)
    have y1 : E * (N * N) * G = E * G * (N * N) := by grind
    have y2 : G * (N * N) * E = E * G * (N * N) := by grind
    omega
  have T2 := Int.mul_le_mul_of_nonneg_left T1 (show 0 ≤ 1048576 * (N * N) by omega)
  have eg0 : 0 ≤ E * G := Int.mul_nonneg (by omega) (by omega)
  obtain ⟨F, eF⟩ : ∃ x, E + G + 1 = x := ⟨_, rfl⟩
  have f0 : 0 ≤ F := by omega
  have ab0 := Int.mul_nonneg a0 b0
  have abl : a * b ≤ E * G * (N * N) := by
    have := Rt.mul_mono al bl a0 b0
    have e : E * N * (G * N) = E * G * (N * N) := by grind
    omega
  have fl : a + b + 1 ≤ F * N := by
    have e : F * N = E * N + G * N + N := by rw [← eF]; grind
    omega
  have p1 : a * b * (a + b + 1) ≤ E * G * (N * N) * (F * N) := Rt.mul_mono abl fl ab0 (by omega)
  have p2 : a * b * (a + b) ≤ E * G * (N * N) * (F * N) := Rt.mul_mono abl (by omega) ab0 (by omega)
  have p3 : (a + b + 1) * (a + b + 1) ≤ F * F * (N * N) * N := by
    have q1 := Rt.mul_mono fl fl (by omega) (by omega)
    have q2 := Int.mul_le_mul_of_nonneg_left hN (show 0 ≤ F * F * (N * N) from Int.mul_nonneg (Rt.sq_nn F) nn)
    have e : F * N * (F * N) = F * F * (N * N) := by grind
    omega
  have p4 : E * G * (N * N) * (N * N) ≤ a * b * (a * b) + 2 * (a * b * (a + b + 1)) + (a + b + 1) * (a + b + 1) := by
    have q := Rt.mul_mono (Int.le_of_lt a3) (Int.le_of_lt b3) (Int.mul_nonneg (by omega) nn) (Int.mul_nonneg (by omega) nn)
    have e1 : E * (N * N) * (G * (N * N)) = E * G * (N * N) * (N * N) := by grind
    have e2 : (a + 1) * (a + 1) * ((b + 1) * (b + 1)) = a * b * (a * b) + 2 * (a * b * (a + b + 1)) + (a + b + 1) * (a + b + 1) := by grind
    omega
  have r1 := Int.mul_le_mul_of_nonneg_left (show E * G * (N * N) * (N * N) - 2 * (E * G * (N * N) * (F * N)) - F * F * (N * N) * N ≤ a * b * (a * b) by omega) W0
  have r2 := Int.mul_le_mul_of_nonneg_left p2 Y0
  have big : 2097152 * Q * P * (a * b) * (N * N) ≤ (E * G * (2097152 * Q - W) * (N * N) + (W * (2 * (E * G * F) + F * F) + Y * (E * G * F)) * N) * (N * N) := by
    have g1 : 1048576 * (N * N) * ((2 * (E * G * (N * N)) - 2 * (a * b) * P) * Q) = 2097152 * Q * (E * G) * (N * N) * (N * N) - 2097152 * Q * P * (a * b) * (N * N) := by grind
    have g2 : W * (E * G * (N * N) * (N * N) - 2 * (E * G * (N * N) * (F * N)) - F * F * (N * N) * N) = W * (E * G) * (N * N) * (N * N) - W * (2 * (E * G * F) + F * F) * N * (N * N) := by grind
    have g3 : Y * (E * G * (N * N) * (F * N)) = Y * (E * G * F) * N * (N * N) := by grind
    have g4 : (E * G * (2097152 * Q - W) * (N * N) + (W * (2 * (E * G * F) + F * F) + Y * (E * G * F)) * N) * (N * N) = 2097152 * Q * (E * G) * (N * N) * (N * N) - W * (E * G) * (N * N) * (N * N) + W * (2 * (E * G * F) + F * F) * N * (N * N) + Y * (E * G * F) * N * (N * N) := by grind
    have g5 : a * b * (a * b) * W = W * (a * b * (a * b)) := Int.mul_comm _ _
    have g6 : -(a * b * (a + b)) * Y = -(Y * (a * b * (a + b))) := by grind
    rw [g1] at T2
    rw [g2] at r1
    rw [g3] at r2
    rw [g4]
    omega
  have np : 0 < N := by omega
  rw [eF]
  exact Rt.mul_cancel_le big (Int.mul_pos np np)
/-- the excess of a region against the product: in squares, without roots -/
theorem reg_sq (V U : List Int) (m n : Nat) (hV : V.length = m) (hU : U.length = m) (n1 : 1 ≤ n) (hE : 1 ≤ su sq U) (hG : 1 ≤ su sq V) (d lo hi : Nat → Int) (hd : ∀ k, k < n → 0 ≤ d k)
    (hl : ∀ k, k < n → lo k ≤ quo (64 * pk V m n k) (su sq V) ∧ quo (64 * pk V m n k) (su sq V) ≤ hi k)
    (h : ∀ k, k < n → d k ≤ max 0 (max (16 * lo k - (quo (1024 * pk U m n k) (su sq U) + 1)) (quo (1024 * pk U m n k) (su sq U) - 16 * (hi k + 1)))) :
    ∀ D M : Int, D = 2097152 * cq m n → M = D - tq (fun k => wk m n k * (d k * d k)) n →
    (0 ≤ dot V U → 0 ≤ M ∧ D * D * (dot V U * dot V U) ≤ su sq U * su sq V * (M * M)) ∧
    (M < 0 → dot V U < 0 ∧ su sq U * su sq V * (M * M) ≤ D * D * (dot V U * dot V U)) := by
  intro D M eD eM
  obtain ⟨C, hC⟩ := reg_lim V U m n hV hU n1 hE hG d lo hi hd hl h
  rw [← eD, ← eM] at hC
  have hD : 0 ≤ D := by rw [eD]; exact Int.mul_nonneg (by decide) (by unfold cq; exact Int.mul_nonneg (Int.natCast_nonneg _) (Int.add_nonneg (Int.natCast_nonneg _) (by decide)))
  obtain ⟨E, eE⟩ : ∃ x, su sq U = x := ⟨_, rfl⟩
  obtain ⟨G, eG⟩ : ∃ x, su sq V = x := ⟨_, rfl⟩
  obtain ⟨P, eP⟩ : ∃ x, dot V U = x := ⟨_, rfl⟩
  rw [eE, eG, eP] at hC
  rw [eE] at hE
  rw [eG] at hG
  rw [eE, eG, eP]
  have eg : 0 < E * G := Int.mul_pos (by omega) (by omega)
  constructor
  · intro p0
    have q := Rt.two_up (by omega) (by omega) (Int.mul_nonneg hD p0) hC
    refine ⟨?_, ?_⟩
    · rcases Int.lt_or_le M 0 with c | c
      · have := Int.mul_neg_of_pos_of_neg eg c; omega
      · exact c
    · apply Rt.mul_cancel_le (e := E * G) _ eg
      have e1 : D * D * (P * P) * (E * G) = D * P * (D * P) * (E * G) := by grind
      have e2 : E * G * (M * M) * (E * G) = E * G * M * (E * G * M) := by grind
      rw [e1, e2]; exact q.2
  · intro m0
    have q := Rt.two_dn (by omega) (by omega) (Int.mul_neg_of_pos_of_neg eg m0) hC
    refine ⟨?_, ?_⟩
    · rcases Int.lt_or_le P 0 with c | c
      · exact c
      · have := Int.mul_nonneg hD c; omega
    · apply Rt.mul_cancel_le (e := E * G) _ eg
      have e1 : D * D * (P * P) * (E * G) = D * P * (D * P) * (E * G) := by grind
      have e2 : E * G * (M * M) * (E * G) = E * G * M * (E * G * M) := by grind
      rw [e1, e2]; exact q.2
end Go.Proofs.Ytmgdoglnckkobaa.Wi
namespace Go.Proofs.Ytmgdoglnckkobaa.Sk
open Go.ChangeShapes Go.WideShapes Go.RowKit Wo Sr Wi Nr Pc Eu Ra
open Wd (Rp rs rs_at rs_cons)
set_option linter.unusedVariables false
theorem mm_bd {L : List Int} {A B : Int} {n : Nat} (h : ∀ i, i < n → A ≤ L.getD i 0 ∧ L.getD i 0 ≤ B) : ∀ i, i < n → (A ≤ mnl L i ∧ mnl L i ≤ B) ∧ (A ≤ mxl L i ∧ mxl L i ≤ B)
  | 0, hi => ⟨h 0 hi, h 0 hi⟩
  | i + 1, hi => by
    have a := mm_bd h i (by omega)
    have b := h (i + 1) hi
    unfold mnl mxl
    omega
theorem mm_ge {L : List Int} : ∀ i j, j ≤ i → mnl L i ≤ L.getD j 0 ∧ L.getD j 0 ≤ mxl L i
  | 0, j, h => by obtain rfl : j = 0 := by omega
                  exact ⟨Int.le_refl _, Int.le_refl _⟩
  | i + 1, j, h => by
    unfold mnl mxl
    rcases Nat.lt_or_ge i j with c | c
    · obtain rfl : j = i + 1 := by omega
      omega
    · have := mm_ge (L := L) i j c
      omega
/-- a length times what is left of the common multiple -/
theorem kp_mul {m n p : Nat} (n1 : 1 ≤ n) (nm : n ≤ m) (hp : p < n) : kp m n p * (ln m n p : Int) = cmn m n := by
  have hl : ∀ i, i < n → ((m / n : Nat) : Int) ≤ (lns m n).getD i 0 ∧ (lns m n).getD i 0 ≤ ((m / n : Nat) : Int) + 1 := fun i hi => by
    rw [lns_at m n i hi]
    have := sz m n i n1
    unfold ln
    obtain ⟨q, hq⟩ : ∃ q, m / n = q := ⟨_, rfl⟩
    rw [hq] at this ⊢
    omega
  have b := mm_bd hl (n - 1) (by omega)
  have g := mm_ge (L := lns m n) (n - 1) p (by omega)
  have z := lns_at m n p hp
  have zp : 1 ≤ ln m n p := ln_pos m n p n1 nm
  have key : ∃ x, cmn m n = (ln m n p : Int) * x := by
    have hb := hl p hp
    rw [z] at hb g
    unfold cmn
    split
    · rename_i c
      rcases Int.lt_or_le (mnl (lns m n) (n - 1)) (ln m n p : Int) with d | d
      · have : mxl (lns m n) (n - 1) = (ln m n p : Int) := by omega
        rw [this]; exact ⟨_, Int.mul_comm _ _⟩
      · have : mnl (lns m n) (n - 1) = (ln m n p : Int) := by omega
        rw [this]; exact ⟨_, rfl⟩
    · rename_i c
      have : mnl (lns m n) (n - 1) = (ln m n p : Int) := by omega
      rw [this]; exact ⟨1, (Int.mul_one _).symm⟩
  obtain ⟨x, hx⟩ := key
  unfold kp
  rw [z, hx, ← Int.mul_assoc, Int.mul_ediv_cancel_left _ (by omega), Int.mul_comm]
/-- how far a piece is away, at most the farthest -/
def dk (m n : Nat) (X : List Int) (L : List Rp) (k : Nat) : Int := min (dd (Rt.quo (1024 * (pls (cen X) m n).getD k 0) ((m : Int) * vr X)) (L.getD k (0, 0))) 16384
theorem dk_nn (m n : Nat) (X : List Int) (L : List Rp) (k : Nat) : 0 ≤ dk m n X L k := by
  have := dd_nonneg (Rt.quo (1024 * (pls (cen X) m n).getD k 0) ((m : Int) * vr X)) (L.getD k (0, 0))
  unfold dk; omega
theorem xs_tq {m n : Nat} {X : List Int} {L : List Rp} (n1 : 1 ≤ n) (nm : n ≤ m) : ∀ i, i ≤ n → xs m n X L i * cq m n = cmn m n * tq (fun k => wk m n k * (dk m n X L k * dk m n X L k)) i
  | 0, _ => by unfold xs tq; omega
  | i + 1, hi => by
    have ih := xs_tq (X := X) (L := L) n1 nm i (by omega)
    have k := kp_mul n1 nm (show i < n by omega)
    have w := ln_w m n i n1
    show (xs m n X L i + dk m n X L i * dk m n X L i * kp m n i) * cq m n = cmn m n * (tq (fun k => wk m n k * (dk m n X L k * dk m n X L k)) i + wk m n i * (dk m n X L i * dk m n X L i))
    have e : kp m n i * cq m n = cmn m n * wk m n i := by
      rw [← w, ← k]; show kp m n i * ((ln m n i : Int) * wk m n i) = _; rw [Int.mul_assoc]
    rw [Int.add_mul, ih, Int.mul_assoc, e]
    grind
theorem bT_le {num D : Int} (h : num ≤ D) (hD : 0 ≤ D) : bT num D ≤ D * D := by
  unfold bT
  have h0 : 0 ≤ bH num D := by unfold bH; omega
  have : 0 ≤ bH num D * bA (bH num D) := Int.mul_nonneg h0 (by unfold bA; split <;> omega)
  omega
/-- the bound against the gap, of numbers -/
theorem bT_gap {num D g c : Int} (hD : 0 ≤ D) (hg : 0 ≤ g) (h1 : 0 ≤ c → 0 ≤ D - num ∧ D * D * (c * c) ≤ g * ((D - num) * (D - num))) (h2 : D - num < 0 → g * ((D - num) * (D - num)) ≤ D * D * (c * c)) (n0 : 0 ≤ num) :
    bT num D * g ≤ (g - sg c) * (D * D) := by
  have e : (g - sg c) * (D * D) = g * (D * D) - sg c * (D * D) := by grind
  have e2 : bT num D * g = g * (D * D) - bH num D * bA (bH num D) * g := by unfold bT; grind
  rw [e, e2]
  have key : sg c * (D * D) ≤ bH num D * bA (bH num D) * g := by
    rcases Int.lt_or_le (D - num) 0 with q | q
    · have c0 : c < 0 := by
        rcases Int.lt_or_le c 0 with z | z
        · exact z
        · have := (h1 z).1; omega
      have a := h2 q
      have hb : bH num D < 0 ∨ bH num D = 0 := by unfold bH; omega
      have hh : bH num D * bH num D ≤ (D - num) * (D - num) := by
        have e3 : bH num D * bH num D = -bH num D * -bH num D := by grind
        have e4 : (D - num) * (D - num) = -(D - num) * -(D - num) := by grind
        rw [e3, e4]
        exact Rt.sq_mono (by unfold bH; omega) (by omega)
      have i := Int.mul_le_mul_of_nonneg_left hh hg
      have e5 : bH num D * bA (bH num D) * g = -(g * (bH num D * bH num D)) := by
        rcases hb with z | z
        · unfold bA; rw [if_pos z]; grind
        · rw [z]; simp
      have e6 : sg c * (D * D) = -(D * D * (c * c)) := by unfold sg; rw [if_pos c0]; grind
      rw [e5, e6]; omega
    · have hb : bH num D = D - num := by unfold bH; omega
      have ha : bA (D - num) = D - num := by unfold bA; rw [if_neg (by omega)]
      rw [hb, ha]
      have p0 : 0 ≤ (D - num) * (D - num) * g := Int.mul_nonneg (Rt.sq_nn _) hg
      unfold sg
      split
      · have : 0 ≤ c * c * (D * D) := Int.mul_nonneg (Rt.sq_nn _) (Rt.sq_nn _)
        have e7 : -(c * c) * (D * D) = -(c * c * (D * D)) := by grind
        omega
      · have := (h1 (by omega)).2
        have e7 : c * c * (D * D) = D * D * (c * c) := Int.mul_comm _ _
        have e8 : (D - num) * (D - num) * g = g * ((D - num) * (D - num)) := Int.mul_comm _ _
        omega
  omega
/-- where the window of the region is constant: the excess is at most 1/2 -/
theorem far_zero {T E lo hi d : Int} (hE : 1 ≤ E) (h1 : lo ≤ 0) (h2 : 0 ≤ hi) (hd : 0 ≤ d) (h : d ≤ max 0 (max (16 * lo - (Rt.quo (1024 * T) E + 1)) (Rt.quo (1024 * T) E - 16 * (hi + 1)))) : d * d * E ≤ 1048576 * (T * T) := by
  have e : 1024 * T * (1024 * T) = 1048576 * (T * T) := by grind
  rcases Int.lt_or_le (1024 * T) 0 with t | t
  · obtain ⟨r, hq, r1, h3, h4⟩ := Rt.quo_sq2 hE t
    rw [hq] at h
    have s := Rt.sq_mono (show d ≤ r - 1 by omega) hd
    have := Int.mul_le_mul_of_nonneg_right s (show 0 ≤ E by omega)
    omega
  · obtain ⟨q0, h3, h4⟩ := Rt.quo_sq hE t
    have s := Rt.sq_mono (show d ≤ Rt.quo (1024 * T) E by omega) hd
    have := Int.mul_le_mul_of_nonneg_right s (show 0 ≤ E by omega)
    omega
/-- the bound of a region is at most the gap of each window whose coordinates lie in it -/
theorem rT_gap {m n : Nat} {Q X : List Int} {L : List Rp} (m2 : 2 ≤ m) (m32 : m ≤ 32) (n1 : 1 ≤ n) (nm : n ≤ m) (hQ : Q.length = m) (hX : X.length = m) (sQ : Sam Q) (sX : Sam X)
    (hl : ∀ p, p < n → if vr X = 0 then (L.getD p (0, 0)).1 ≤ 0 ∧ 0 ≤ (L.getD p (0, 0)).2 else (L.getD p (0, 0)).1 ≤ Rt.quo (64 * pa (cen X) m n p) ((m : Int) * vr X) ∧ Rt.quo (64 * pa (cen X) m n p) ((m : Int) * vr X) ≤ (L.getD p (0, 0)).2) :
    rT m n Q L * gD (vr Q) (vr X) ≤ gN (vr Q) (vr X) (pr Q X) * rC m n Q := by
  have eq := cen_en hQ sQ m32
  have ex := cen_en hX sX m32
  have vq := vr_nn Q
  have vx := vr_nn X
  have mp : (0 : Int) < (m : Int) := by omega
  have ci := cmn_in m32 n1 nm
  have xi := xs_in (X := Q) (L := L) m32 n1 nm n (Nat.le_refl n)
  by_cases q0 : vr Q = 0
  · have z : (m : Int) * vr Q = 0 := by rw [q0]; omega
    unfold rT rC gN gD
    rw [if_pos z, if_pos z, if_pos q0, if_pos q0]
    by_cases x0 : vr X = 0
    · have na : ¬ anyo L n := by
        rintro ⟨p, hp, ho⟩
        have := hl p hp
        rw [if_pos x0] at this
        unfold offz at ho; omega
      rw [if_neg na, if_pos x0]; decide
    · rw [if_neg x0]; split <;> decide
  · have z : ¬ (m : Int) * vr Q = 0 := by
      have := Int.mul_pos mp (show 0 < vr Q by omega); omega
    have zE : 1 ≤ (m : Int) * vr Q := by omega
    have cp := cq_in m n n1 nm m32
    have XT := xs_tq (X := Q) (L := L) n1 nm n (Nat.le_refl n)
    obtain ⟨W, eW⟩ : ∃ x, tq (fun k => wk m n k * (dk m n Q L k * dk m n Q L k)) n = x := ⟨_, rfl⟩
    have hlen : (cen Q).length = m := by rw [cen_len', hQ]
    have hlenX : (cen X).length = m := by rw [cen_len', hX]
    have hd : ∀ k, k < n → 0 ≤ dk m n Q L k := fun k _ => dk_nn m n Q L k
    have hdk : ∀ k, k < n → dk m n Q L k ≤ max 0 (max (16 * (L.getD k (0, 0)).1 - (Rt.quo (1024 * pk (cen Q) m n k) ((m : Int) * vr Q) + 1)) (Rt.quo (1024 * pk (cen Q) m n k) ((m : Int) * vr Q) - 16 * ((L.getD k (0, 0)).2 + 1))) := fun k hk => by
      unfold dk dd
      rw [pls_pa _ _ _ _ hk]
      exact Int.min_le_left _ _
    unfold rT rC gN gD
    rw [if_neg z, if_neg z, if_neg q0, if_neg q0]
    by_cases x0 : vr X = 0
    · rw [if_pos x0, if_pos x0, Int.mul_one, Int.one_mul]
      refine bT_le ?_ (by omega)
      have B : W * ((m : Int) * vr Q) ≤ 1048576 * (((m : Int) * vr Q) * cq m n) := by
        have s := bq_le (cen Q) m n hlen n1
        rw [eq.2.2.2] at s
        have t : tq (fun k => ((m : Int) * vr Q) * (wk m n k * (dk m n Q L k * dk m n Q L k))) n ≤ tq (fun k => 1048576 * (pg (cen Q) (st m n k) (st m n (k + 1)) * pg (cen Q) (st m n k) (st m n (k + 1)) * wq (m / n) (st m n (k + 1) - st m n k))) n := by
          refine tq_le (n := n) (fun k hk => ?_) n (Nat.le_refl n)
          have l := hl k hk
          rw [if_pos x0] at l
          have f := far_zero (T := pk (cen Q) m n k) zE l.1 l.2 (hd k hk) (hdk k hk)
          have g := Int.mul_le_mul_of_nonneg_left f (wq_nn (m / n) (st m n (k + 1) - st m n k))
          refine Int.le_trans (Int.le_of_eq ?_) (Int.le_trans g (Int.le_of_eq ?_))
          · unfold wk; grind
          · unfold pk; grind
        rw [tq_mul, tq_mul, eW] at t
        have e : tq (fun k => pg (cen Q) (st m n k) (st m n (k + 1)) * pg (cen Q) (st m n k) (st m n (k + 1)) * wq (m / n) (st m n (k + 1) - st m n k)) n = bq (cen Q) m n := rfl
        rw [e] at t
        rw [Int.mul_comm]; omega
      have B2 : W ≤ 1048576 * cq m n := by
        apply Rt.mul_cancel_le (e := (m : Int) * vr Q) _ (by omega)
        have e : 1048576 * cq m n * ((m : Int) * vr Q) = 1048576 * (((m : Int) * vr Q) * cq m n) := by grind
        rw [e]; exact B
      rw [eW] at XT
      apply Rt.mul_cancel_le (e := cq m n) _ (by omega)
      rw [XT]
      have i := Int.mul_le_mul_of_nonneg_left B2 (show 0 ≤ cmn m n by omega)
      have j := Int.mul_nonneg (show 0 ≤ cmn m n by omega) (show 0 ≤ cq m n by omega)
      have e1 : cmn m n * (1048576 * cq m n) = 1048576 * (cmn m n * cq m n) := by grind
      have e2 : 2097152 * cmn m n * cq m n = 2097152 * (cmn m n * cq m n) := by grind
      omega
    · rw [if_neg x0, if_neg x0]
      have zG : 1 ≤ (m : Int) * vr X := by have := Int.mul_pos mp (show 0 < vr X by omega); omega
      have R := reg_sq (cen X) (cen Q) m n hlenX hlen n1 (by rw [eq.2.2.2]; exact zE) (by rw [ex.2.2.2]; exact zG) (dk m n Q L) (fun k => (L.getD k (0, 0)).1) (fun k => (L.getD k (0, 0)).2) hd
        (fun k hk => by have l := hl k hk; rw [if_neg x0] at l; rw [ex.2.2.2]; exact l) (fun k hk => by rw [eq.2.2.2]; exact hdk k hk) _ _ rfl rfl
      rw [eW, eq.2.2.2, ex.2.2.2, cen_dot (by omega), hX, show pr X Q = pr Q X by unfold pr; rw [dot_comm, hX, hQ, Int.mul_comm (su ix X)]] at R
      rw [eW] at XT
      obtain ⟨c, ec⟩ : ∃ x, pr Q X = x := ⟨_, rfl⟩
      obtain ⟨v, ev⟩ : ∃ x, vr Q = x := ⟨_, rfl⟩
      obtain ⟨w, ew⟩ : ∃ x, vr X = x := ⟨_, rfl⟩
      obtain ⟨s, es⟩ : ∃ x, cmn m n = x := ⟨_, rfl⟩
      obtain ⟨r, er⟩ : ∃ x, cq m n = x := ⟨_, rfl⟩
      obtain ⟨y, ey⟩ : ∃ x, xs m n Q L n = x := ⟨_, rfl⟩
      obtain ⟨k, ek⟩ : ∃ x : Int, (m : Int) = x := ⟨_, rfl⟩
      rw [ec, ev, ew, er, ek] at R
      rw [ey, er, es] at XT
      rw [ec, ev, ew, es, ey]
      rw [ev] at vq
      rw [ew] at vx
      rw [ek] at mp
      rw [es] at ci
      rw [er] at cp
      rw [ey] at xi
      have g0 : 0 ≤ v * w := Int.mul_nonneg vq vx
      have kk : 0 < k * k := Int.mul_pos mp mp
      have rr : 0 < r * r := Int.mul_pos (by omega) (by omega)
      have eM : (2097152 * s - y) * r = s * (2097152 * r - W) := by
        have e : (2097152 * s - y) * r = 2097152 * (s * r) - y * r := by grind
        have e2 : s * (2097152 * r - W) = 2097152 * (s * r) - s * W := by grind
        rw [e, e2, XT]
      have sq : (2097152 * s - y) * (2097152 * s - y) * (r * r) = s * s * ((2097152 * r - W) * (2097152 * r - W)) := by
        have e : (2097152 * s - y) * (2097152 * s - y) * (r * r) = (2097152 * s - y) * r * ((2097152 * s - y) * r) := by grind
        rw [e, eM]; grind
      have s1 : 0 < s := by omega
      have r1 : 0 < r := by omega
      refine bT_gap (by omega) g0 (fun c0 => ?_) (fun m0 => ?_) xi.1
      · have h := R.1 (Int.mul_nonneg (Int.le_of_lt mp) c0)
        refine ⟨?_, ?_⟩
        · have := Int.mul_nonneg (Int.le_of_lt s1) h.1
          rw [← eM] at this
          exact Int.nonneg_of_mul_nonneg_left this r1
        · apply Rt.mul_cancel_le (e := r * r) _ rr
          apply Rt.mul_cancel_le (e := k * k) _ kk
          have i := Int.mul_le_mul_of_nonneg_left h.2 (show 0 ≤ s * s from Rt.sq_nn s)
          have e1 : 2097152 * s * (2097152 * s) * (c * c) * (r * r) * (k * k) = s * s * (2097152 * r * (2097152 * r) * (k * c * (k * c))) := by grind
          have e2 : v * w * ((2097152 * s - y) * (2097152 * s - y)) * (r * r) * (k * k) = s * s * (k * v * (k * w) * ((2097152 * r - W) * (2097152 * r - W))) := by
            have e : v * w * ((2097152 * s - y) * (2097152 * s - y)) * (r * r) * (k * k) = v * w * ((2097152 * s - y) * (2097152 * s - y) * (r * r)) * (k * k) := by grind
            rw [e, sq]; grind
          rw [e1, e2]; exact i
      · have m1 : 2097152 * r - W < 0 := by
          rcases Int.lt_or_le (2097152 * r - W) 0 with q | q
          · exact q
          · have := Int.mul_nonneg (Int.le_of_lt s1) q
            rw [← eM] at this
            have := Int.nonneg_of_mul_nonneg_left this r1
            omega
        have h := R.2 m1
        apply Rt.mul_cancel_le (e := r * r) _ rr
        apply Rt.mul_cancel_le (e := k * k) _ kk
        have i := Int.mul_le_mul_of_nonneg_left h.2 (show 0 ≤ s * s from Rt.sq_nn s)
        have e1 : 2097152 * s * (2097152 * s) * (c * c) * (r * r) * (k * k) = s * s * (2097152 * r * (2097152 * r) * (k * c * (k * c))) := by grind
        have e2 : v * w * ((2097152 * s - y) * (2097152 * s - y)) * (r * r) * (k * k) = s * s * (k * v * (k * w) * ((2097152 * r - W) * (2097152 * r - W))) := by
          have e : v * w * ((2097152 * s - y) * (2097152 * s - y)) * (r * r) * (k * k) = v * w * ((2097152 * s - y) * (2097152 * s - y) * (r * r)) * (k * k) := by grind
          rw [e, sq]; grind
        rw [e1, e2]; exact i
end Go.Proofs.Ytmgdoglnckkobaa.Sk
namespace Go.Proofs.Ytmgdoglnckkobaa.Wd
end Go.Proofs.Ytmgdoglnckkobaa.Wd
