/- slices.symMergeCmpFunc over readings, by time. -/
import Derived.Test.YtgcjangnlbhicaaStY0
namespace Go.Proofs.Ytgcjangnlbhicaa.St
open Go.ChangeShapes Go.WideShapes Go.RowKit Wo Sr Wi Rm Rg
set_option linter.unusedVariables false
set_option maxHeartbeats 8000000 in
set_option maxRecDepth 100000 in
theorem sym1 (g c n a m b : Nat) (l : List Rp) (hn : n ≤ 100000) (hnc : n ≤ c) (ham : a < m) (hmb : m < b) (hbn : b ≤ n) (hs1 : Srt l a m) (hs2 : Srt l m b) (h1 : m = a + 1) (w : World) (h : Rw w g n l) :
    Calls Try.prog 48 #[.slice (some ⟨g, 0, none⟩) n c, .int .i64 (a : Int), .int .i64 (m : Int), .int .i64 (b : Int), ord] w (SomeSort g n a b l w) := by
  have H0 := Lib.hid h
  have hl := h.1
  have ni : (n : Int) ≤ 100000 := by omega
  have HS2 : Hid (Srt l (a + 1) b) := by show Srt _ _ _; rw [← h1]; exact hs2
  have e0 : (m : Int) - (a : Int) = 1 := by omega
  have H1 := Lib.hid h1
  unfold ord
  clear h hs1 hs2 h1
  go_enter Try.func48, Try.ntmps48
  go_wp2
  go_loopw [10, 11] (fun s10 s11 wr => ∃ (i j : Nat) (V : World), V = wr ∧ m ≤ i ∧ i ≤ j ∧ j ≤ b ∧ s10 = .int .i64 (i : Int) ∧ s11 = .int .i64 (j : Int) ∧ (∀ q, a + 1 ≤ q → q < i → tm l q < tm l a) ∧ (∀ q, j ≤ q → q < b → tm l a ≤ tm l q) ∧ Bel w wr) (fun s10 s11 _ => (intOf s11).toNat - (intOf s10).toNat)
  case atStart => exact ⟨m, b, _, rfl, by omega, by omega, by omega, rfl, rfl, fun q q1 q2 => by have := H1.out; omega, fun q q1 q2 => by omega, by first | exact Bel.rf | exact Bel.rf.drwN _⟩
  case round =>
    obtain ⟨i, j, wr, hwr, hmi, hij, hjb, rfl, rfl, k1, k2, hb⟩ := hrel
    subst hwr
    have HB := Lib.hid hb
    have HK1 := Lib.hid k1
    have HK2 := Lib.hid k2
    have HR := Lib.hid (H0.out.bel hb)
    clear k1 k2 hb
    rcases Nat.lt_or_ge i j with hlt | hge
    · obtain ⟨h, hh⟩ : ∃ h, (i + j) / 2 = h := ⟨_, rfl⟩
      obtain ⟨hh1, hh2⟩ := half_nat hh hlt
      have hhi : ((i : Int) + (j : Int)) / 2 = (h : Int) := by omega
      have cj := HR.out.2.2 h (by omega)
      have cq := HR.out.2.2 a (by omega)
      obtain ⟨t1, ht1⟩ : ∃ x, tm l h = x := ⟨_, rfl⟩
      obtain ⟨u1, hu1⟩ : ∃ x, vl l h = x := ⟨_, rfl⟩
      obtain ⟨t0, ht0⟩ : ∃ x, tm l a = x := ⟨_, rfl⟩
      obtain ⟨u0, hu0⟩ : ∃ x, vl l a = x := ⟨_, rfl⟩
      rw [ht1, hu1] at cj
      rw [ht0, hu0] at cq
      have HT := Lib.hid (And.intro ht1 ht0)
      have HKS : Hid (∀ W, Bel wr W → Bel wr W ∧ W.cell? ⟨g, h * 2, none⟩ = some (.int .i64 t1) ∧ W.cell? ⟨g, h * 2 + 1, none⟩ = some (.int .i64 u1) ∧ W.cell? ⟨g, a * 2, none⟩ = some (.int .i64 t0) ∧ W.cell? ⟨g, a * 2 + 1, none⟩ = some (.int .i64 u0)) := fun W hW => ⟨hW, hW.kp cj.1, hW.kp cj.2.1, hW.kp cq.1, hW.kp cq.2.1⟩
      obtain ⟨c1, c2, f1, f2⟩ := cj
      obtain ⟨c3, c4, f3, f4⟩ := cq
      have HOK : Hid (∀ W, Calls Try.prog 39 #[.agg #[.int .i64 t1, .int .i64 u1], .agg #[.int .i64 t0, .int .i64 u0]] W fun e w' => e = .returned (.int .i64 (cm t1 t0)) ∧ Bel W w') := ord_ok t1 u1 t0 u0
      obtain ⟨C, hC⟩ : ∃ x, cm t1 t0 = x := ⟨_, rfl⟩
      have hC3 := cm3 t1 t0
      rw [hC] at hC3
      have HC3 := Lib.hid hC3
      have hCl := cm_lt t1 t0
      rw [hC, ← ht1, ← ht0] at hCl
      rw [hC] at HOK
      have HCL := Lib.hid hCl
      clear hCl hC hC3 ht1 hu1 ht0 hu0
      have h_0 : (0 : Int) ≤ (h : Int) := by omega
      have h_1 : (h : Int) < (n : Int) := by omega
      have a_0 : (0 : Int) ≤ (a : Int) := by omega
      have a_1 : (a : Int) < (n : Int) := by omega
      have ti : (i : Int) < (j : Int) := by omega
      clear hh
      go_wp2
      go_region_held3 (fun W => Bel wr W ∧ W.cell? ⟨g, h * 2, none⟩ = some (.int .i64 t1) ∧ W.cell? ⟨g, h * 2 + 1, none⟩ = some (.int .i64 u1) ∧ W.cell? ⟨g, a * 2, none⟩ = some (.int .i64 t0) ∧ W.cell? ⟨g, a * 2 + 1, none⟩ = some (.int .i64 u0)) ((refine HKS.out _ ?_; repeat (first | exact HBX.out | exact Bel.rf | (with_reducible refine Bel.drwN ?_ _) | (with_reducible refine Bel.drw ?_)))) (first
        | (go_at_call 39; refine (HOK.out _).mono ?_; rintro e wz ⟨rfl, hbz⟩; have HBX : Hid (Bel wr wz) := Bel.tr (by repeat (first | exact Bel.rf | (with_reducible refine Bel.drwN ?_ _) | (with_reducible refine Bel.drw ?_))) hbz; clear hbz))
      clear c1 c2 f1 f2 c3 c4 f3 f4 HKS HOK
      rcases Int.lt_or_le C 0 with hc | hc
      · have dC : decide (C < 0) = true := decide_eq_true hc
        have hq : tm l h < tm l a := HCL.out.1 hc
        have HQ : Hid (∀ q, a + 1 ≤ q → q < h + 1 → tm l q < tm l a) := fun q q1 q2 => by
          by_cases e : q = h
          · rw [e]; exact hq
          · have := HS2.out q h q1 (by omega) (by omega)
            omega
        clear hq
        go_wp2
        go_roundw
        case rel => exact ⟨h + 1, j, _, rfl, by omega, by omega, hjb, by go_num, rfl, HQ.out, HK2.out, by first | exact HB.out.tr HBX.out | exact (HB.out.tr HBX.out).drwN _⟩
        case measure => simp [intOf]; omega
      · have dC : decide (C < 0) = false := decide_eq_false (by omega)
        have nC : ¬ C < 0 := by omega
        have hq : tm l a ≤ tm l h := by
          have : ¬ tm l h < tm l a := fun x => nC (HCL.out.2 x)
          omega
        have HQ : Hid (∀ q, h ≤ q → q < b → tm l a ≤ tm l q) := fun q q1 q2 => by
          by_cases e : q = h
          · rw [e]; exact hq
          · have := HS2.out h q (by have := H1.out; omega) (by omega) q2
            omega
        clear hq
        go_wp2
        go_roundw
        case rel => exact ⟨i, h, _, rfl, by omega, by omega, by omega, rfl, rfl, HK1.out, HQ.out, by first | exact HB.out.tr HBX.out | exact (HB.out.tr HBX.out).drwN _⟩
        case measure => simp [intOf]; omega
    · obtain rfl : i = j := by omega
      obtain ⟨z, hz⟩ : ∃ z, i - 1 = z := ⟨_, rfl⟩
      have zi : (i : Int) - 1 = (z : Int) := by omega
      have hza : a ≤ z := by omega
      have HZ := Lib.hid hz
      clear hz
      go_wp2
      go_loopw [13] (fun s13 wq => ∃ (k : Nat) (V : World) (l1 : List Rp), V = wq ∧ a ≤ k ∧ k ≤ z ∧ s13 = .int .i64 (k : Int) ∧ Rw wq g n l1 ∧ Up l l1 a k ∧ Mv l l1 a b ∧ Ch g w wq) (fun s13 _ => z - (intOf s13).toNat)
      case atStart => exact ⟨a, _, l, rfl, by omega, by omega, rfl, by first | exact HR.out | exact HR.out.bel (Bel.rf.drwN _), up_start l a, Rm.Mv.rf _ _ _, by first | exact Ch.of_bel HB.out | exact (Ch.of_bel HB.out).drwN _⟩
      case round =>
        obtain ⟨k, wq, l1, hwq, hak, hkz, rfl, hr, hu, hmv, hc⟩ := hrel
        subst hwq
        have HR2 := Lib.hid hr
        have HU2 := Lib.hid hu
        have HM2 := Lib.hid hmv
        have HC2 := Lib.hid hc
        clear hr hu hmv hc
        rcases Nat.lt_or_ge k z with hlt2 | hge2
        · obtain ⟨p, hp⟩ : ∃ p, k + 1 = p := ⟨_, rfl⟩
          have ep : (k : Int) + 1 = (p : Int) := by omega
          have cp := HR2.out.2.2 k (by omega)
          have cq := HR2.out.2.2 p (by omega)
          have hsw := HR2.out.swp k p (by omega) (by omega)
          obtain ⟨t1, ht1⟩ : ∃ x, tm l1 k = x := ⟨_, rfl⟩
          obtain ⟨u1, hu1⟩ : ∃ x, vl l1 k = x := ⟨_, rfl⟩
          obtain ⟨t0, ht0⟩ : ∃ x, tm l1 p = x := ⟨_, rfl⟩
          obtain ⟨u0, hu0⟩ : ∃ x, vl l1 p = x := ⟨_, rfl⟩
          rw [ht1, hu1] at cp
          rw [ht0, hu0] at cq
          rw [ht1, hu1, ht0, hu0] at hsw
          have HSW := Lib.hid hsw
          obtain ⟨c1, c2, f1, f2⟩ := cp
          obtain ⟨c3, c4, f3, f4⟩ := cq
          have HCH : Hid (Ch g w ((((wq.setCell ⟨g, k * 2, none⟩ (.int .i64 t0)).setCell ⟨g, k * 2 + 1, none⟩ (.int .i64 u0)).setCell ⟨g, p * 2, none⟩ (.int .i64 t1)).setCell ⟨g, p * 2 + 1, none⟩ (.int .i64 u1))) := (((HC2.out.st _ _).st _ _).st _ _).st _ _
          clear hsw ht1 hu1 ht0 hu0
          have ll1 : l1.length = n := HR2.out.1
          have HUP : Hid (Up l (Rm.swp l1 k p) a p) := by show Up _ _ _ _; rw [← hp]; exact up_step HU2.out hak (by omega)
          have HMV : Hid (Mv l (Rm.swp l1 k p) a b) := by
            show Mv _ _ _ _
            rw [← hp]
            exact HM2.out.tr (mv_swp l1 k a b hak (by have := HZ.out; omega) (by omega) (up_lt HU2.out hak (HK1.out (k + 1) (by omega) (by have := HZ.out; omega)))) (Nat.le_refl _) (Nat.le_refl _)
          have k_0 : (0 : Int) ≤ (k : Int) := by omega
          have k_1 : (k : Int) < (n : Int) := by omega
          have p_0 : (0 : Int) ≤ (p : Int) := by omega
          have p_1 : (p : Int) < (n : Int) := by omega
          have w_p : IntKind.i64.wrap (p : Int) = (p : Int) := IntWalk.i64_in _ (by omega)
          have tk : (k : Int) < (z : Int) := by omega
          have HPK := Lib.hid hp
          clear hp
          go_wp2
          go_region
          all_goals
            go_wp2
            go_roundw
            case rel => exact ⟨p, _, _, rfl, by omega, by have := HPK.out; omega, rfl, by first | exact HSW.out | exact HSW.out.bel Bel.rf.drw | exact HSW.out.bel (Bel.rf.drwN _), HUP.out, HMV.out, by first | exact HCH.out | exact HCH.out.drw | exact HCH.out.drwN _⟩
            case measure => have := HPK.out; simp [intOf]; omega
        · obtain rfl : k = z := by omega
          have HFIN : Hid (Srt l1 a b) := by
            have h1 := HU2.out
            rw [← HZ.out] at h1
            exact up_done h1 (by omega) hjb HS2.out HK1.out HK2.out
          have tk : ¬ (k : Int) < (k : Int) := by omega
          go_wp2
          go_end0
          exact ⟨rfl, l1, HR2.out, HM2.out, HFIN.out, HC2.out⟩
end Go.Proofs.Ytgcjangnlbhicaa.St
