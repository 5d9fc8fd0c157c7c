/- slices.swapRangeCmpFunc, rotateCmpFunc over readings. -/
import Derived.Test.YtgcjangnlbhicaaStW
namespace Go.Proofs.Ytgcjangnlbhicaa.St
open Go.ChangeShapes Go.WideShapes Go.RowKit Wo Sr Wi Rm Rg
set_option linter.unusedVariables false
set_option maxHeartbeats 8000000 in
set_option maxRecDepth 100000 in
theorem swaps_ok (g c n a b k : Nat) (l : List Rp) (F : Value) (hn : n ≤ 100000) (hnc : n ≤ c) (hab : a + k ≤ b) (hbn : b + k ≤ n) (w : World) (h : Rw w g n l) :
    Calls Try.prog 50 #[.slice (some ⟨g, 0, none⟩) n c, .int .i64 (a : Int), .int .i64 (b : Int), .int .i64 (k : Int), F] w fun e w' => e = .returned (.tuple #[]) ∧ ∃ l', Rw w' g n l' ∧ Sws l l' a b k ∧ Ch g w w' := by
  have H0 := Lib.hid h
  have hl := h.1
  have ni : (n : Int) ≤ 100000 := by omega
  clear h
  go_enter Try.func50, Try.ntmps50
  go_wp2
  go_loopw [10] (fun s10 wr => ∃ (t : Nat) (V : World) (l1 : List Rp), V = wr ∧ t ≤ k ∧ s10 = .int .i64 (t : Int) ∧ Rw wr g n l1 ∧ Sws l l1 a b t ∧ Ch g w wr) (fun s10 _ => k - (intOf s10).toNat)
  case atStart => exact ⟨0, _, l, rfl, by omega, rfl, H0.out, sws_start l a b, Ch.rf⟩
  case round =>
    obtain ⟨t, wr, l1, hwr, ht, rfl, hr, hs, hc⟩ := hrel
    subst hwr
    have HR := Lib.hid hr
    have HS := Lib.hid hs
    have HC := Lib.hid hc
    clear hr hs hc
    rcases Nat.lt_or_ge t k with hlt | hge
    · obtain ⟨p, hp⟩ : ∃ p, a + t = p := ⟨_, rfl⟩
      obtain ⟨q, hq⟩ : ∃ p, b + t = p := ⟨_, rfl⟩
      have cp := HR.out.2.2 p (by omega)
      have cq := HR.out.2.2 q (by omega)
      have hsw := HR.out.swp p q (by omega) (by omega)
      obtain ⟨t1, ht1⟩ : ∃ x, tm l1 p = x := ⟨_, rfl⟩
      obtain ⟨u1, hu1⟩ : ∃ x, vl l1 p = x := ⟨_, rfl⟩
      obtain ⟨t0, ht0⟩ : ∃ x, tm l1 q = x := ⟨_, rfl⟩
      obtain ⟨u0, hu0⟩ : ∃ x, vl l1 q = x := ⟨_, rfl⟩
      rw [ht1, hu1] at cp
      rw [ht0, hu0] at cq
      rw [ht1, hu1, ht0, hu0] at hsw
      have HSW := Lib.hid hsw
      obtain ⟨c1, c2, f1, f2⟩ := cp
      obtain ⟨c3, c4, f3, f4⟩ := cq
      have HST : Hid (Sws l (Rm.swp l1 p q) a b (t + 1)) := by show Sws _ _ _ _ _; rw [← hp, ← hq]; exact sws_step HS.out (by omega) (by omega)
      have HCH : Hid (Ch g w ((((wr.setCell ⟨g, p * 2, none⟩ (.int .i64 t0)).setCell ⟨g, p * 2 + 1, none⟩ (.int .i64 u0)).setCell ⟨g, q * 2, none⟩ (.int .i64 t1)).setCell ⟨g, q * 2 + 1, none⟩ (.int .i64 u1))) := (((HC.out.st _ _).st _ _).st _ _).st _ _
      have p0 : (0 : Int) ≤ (p : Int) := by omega
      have p1 : (p : Int) < (n : Int) := by omega
      have q0 : (0 : Int) ≤ (q : Int) := by omega
      have q1 : (q : Int) < (n : Int) := by omega
      have e1 : (a : Int) + (t : Int) = (p : Int) := by omega
      have e2 : (b : Int) + (t : Int) = (q : Int) := by omega
      have w1 : IntKind.i64.wrap (p : Int) = (p : Int) := IntWalk.i64_in _ (by omega)
      have w2 : IntKind.i64.wrap (q : Int) = (q : Int) := IntWalk.i64_in _ (by omega)
      have ti : (t : Int) < (k : Int) := by omega
      clear hsw ht1 hu1 ht0 hu0 hp hq
      go_wp2
      go_region
      all_goals
        go_wp2
        go_roundw
        case rel => exact ⟨t + 1, _, _, rfl, by omega, by go_num, by first | exact HSW.out | exact HSW.out.bel Bel.rf.drw | exact HSW.out.bel (Bel.rf.drwN _), HST.out, by first | exact HCH.out | exact HCH.out.drw | exact HCH.out.drwN _⟩
        case measure => simp [intOf]; omega
    · obtain rfl : t = k := by omega
      go_wp2
      go_end0
      exact ⟨rfl, l1, HR.out, HS.out, HC.out⟩
set_option maxHeartbeats 8000000 in
set_option maxRecDepth 100000 in
theorem rotate_ok (g c n a m b : Nat) (l : List Rp) (F : Value) (hn : n ≤ 100000) (hnc : n ≤ c) (ham : a < m) (hmb : m < b) (hbn : b ≤ n) (w : World) (h : Rw w g n l) :
    Calls Try.prog 49 #[.slice (some ⟨g, 0, none⟩) n c, .int .i64 (a : Int), .int .i64 (m : Int), .int .i64 (b : Int), F] w fun e w' => e = .returned (.tuple #[]) ∧ ∃ l', Rw w' g n l' ∧ Rot l l' a m b ∧ Ch g w w' := by
  have H0 := Lib.hid h
  have hl := h.1
  have ni : (n : Int) ≤ 100000 := by omega
  have SK : Hid (∀ (p q k : Nat) (l1 : List Rp) (W : World), p + k ≤ q → q + k ≤ n → Rw W g n l1 → Calls Try.prog 50 #[.slice (some ⟨g, 0, none⟩) n c, .int .i64 (p : Int), .int .i64 (q : Int), .int .i64 (k : Int), F] W fun e w' => e = .returned (.tuple #[]) ∧ ∃ l', Rw w' g n l' ∧ Sws l1 l' p q k ∧ Ch g W w') := fun p q k l1 W h1 h2 h3 => swaps_ok g c n p q k l1 F hn hnc h1 h2 W h3
  obtain ⟨i0, hi0⟩ : ∃ i0, m - a = i0 := ⟨_, rfl⟩
  obtain ⟨j0, hj0⟩ : ∃ j0, b - m = j0 := ⟨_, rfl⟩
  have e1 : (m : Int) - (a : Int) = (i0 : Int) := by omega
  have e2 : (b : Int) - (m : Int) = (j0 : Int) := by omega
  have HST : Hid (RotI l l a m b i0 j0) := by show RotI _ _ _ _ _ _ _; rw [← hi0, ← hj0]; exact roti_start l a m b (by omega) (by omega)
  clear h hi0 hj0
  go_enter Try.func49, Try.ntmps49
  go_wp2
  go_loopw [10, 11] (fun s10 s11 wr => ∃ (i j : Nat) (V : World) (l1 : List Rp), V = wr ∧ 1 ≤ i ∧ 1 ≤ j ∧ i ≤ m ∧ m + j ≤ n ∧ s10 = .int .i64 (i : Int) ∧ s11 = .int .i64 (j : Int) ∧ Rw wr g n l1 ∧ RotI l l1 a m b i j ∧ Ch g w wr) (fun s10 s11 _ => (intOf s10).toNat + (intOf s11).toNat)
  case atStart => exact ⟨i0, j0, _, l, rfl, by omega, by omega, by omega, by omega, rfl, rfl, H0.out, HST.out, Ch.rf⟩
  case round =>
    clear HST e1 e2
    obtain ⟨i, j, wr, l1, hwr, hi1, hj1, him, hjn, rfl, rfl, hr, hs, hc⟩ := hrel
    subst hwr
    have HR := Lib.hid hr
    have HS := Lib.hid hs
    have HC := Lib.hid hc
    clear hr hs hc
    obtain ⟨p, hp⟩ : ∃ p, m - i = p := ⟨_, rfl⟩
    have e1 : (m : Int) - (i : Int) = (p : Int) := by omega
    rcases Nat.lt_trichotomy i j with hij | rfl | hij
    · obtain ⟨q, hq⟩ : ∃ q, m + j - i = q := ⟨_, rfl⟩
      have e2 : (m : Int) + (j : Int) - (i : Int) = (q : Int) := by omega
      have k1 : ((i : Int) != (j : Int)) = true := by simp; omega
      have k2 : decide ((j : Int) < (i : Int)) = false := decide_eq_false (by omega)
      have k3 : ¬ (j : Int) < (i : Int) := by omega
      have HPQ := Lib.hid (And.intro hp hq)
      clear hp hq
      go_wp2_with fail
      go_at_call 50
      refine (SK.out p q i l1 wr (by have := HPQ.out; omega) (by have := HPQ.out; omega) HR.out).mono ?_
      rintro e w2 ⟨rfl, l2, hr2, hs2, hc2⟩
      have HR2 := Lib.hid hr2
      have HC2 : Hid (Ch g w w2) := HC.out.tr hc2
      have HS2 : Hid (RotI l l2 a m b i (j - i)) := by
        have h1 := HPQ.out
        rw [← h1.1, ← h1.2] at hs2
        exact roti_less HS.out hij him hs2
      clear hr2 hs2 hc2
      go_wp2
      go_roundw
      case rel => exact ⟨i, j - i, _, l2, rfl, hi1, by omega, him, by omega, rfl, by congr 1; omega, HR2.out, HS2.out, HC2.out⟩
      case measure => simp [intOf]; omega
    · have k1 := ne_self (i : Int)
      have HP := Lib.hid hp
      clear hp
      go_wp2_with fail
      go_at_call 50
      refine (SK.out p m i l1 wr (by have := HP.out; omega) (by omega) HR.out).mono ?_
      rintro e w2 ⟨rfl, l2, hr2, hs2, hc2⟩
      have HR2 := Lib.hid hr2
      have HC2 : Hid (Ch g w w2) := HC.out.tr hc2
      have HS2 : Hid (Rot l l2 a m b) := by
        rw [← HP.out] at hs2
        exact roti_end HS.out him hs2
      clear hr2 hs2 hc2
      go_wp2
      go_end0
      exact ⟨rfl, l2, HR2.out, HS2.out, HC2.out⟩
    · have k1 : ((i : Int) != (j : Int)) = true := by simp; omega
      have k2 : decide ((j : Int) < (i : Int)) = true := decide_eq_true (by omega)
      have k3 : (j : Int) < (i : Int) := by omega
      have HP := Lib.hid hp
      clear hp
      go_wp2_with fail
      go_at_call 50
      refine (SK.out p m j l1 wr (by have := HP.out; omega) (by omega) HR.out).mono ?_
      rintro e w2 ⟨rfl, l2, hr2, hs2, hc2⟩
      have HR2 := Lib.hid hr2
      have HC2 : Hid (Ch g w w2) := HC.out.tr hc2
      have HS2 : Hid (RotI l l2 a m b (i - j) j) := by
        rw [← HP.out] at hs2
        exact roti_more HS.out hij him hs2
      clear hr2 hs2 hc2
      go_wp2
      go_roundw
      case rel => exact ⟨i - j, j, _, l2, rfl, by omega, hj1, by omega, hjn, by congr 1; omega, rfl, HR2.out, HS2.out, HC2.out⟩
      case measure => simp [intOf]; omega
end Go.Proofs.Ytgcjangnlbhicaa.St
