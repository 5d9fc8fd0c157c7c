/- slices.symMergeCmpFunc over readings, by time. -/
import Derived.Test.YtgcjangnlbhicaaStY0
namespace Go.Proofs.Ytgcjangnlbhicaa.St
open Go.ChangeShapes Go.WideShapes Go.RowKit Wo Sr Wi Rm Rg
set_option linter.unusedVariables false
set_option maxHeartbeats 8000000 in
set_option maxRecDepth 100000 in
theorem sym2 (g c n a m b : Nat) (l : List Rp) (hn : n ≤ 100000) (hnc : n ≤ c) (ham : a < m) (hmb : m < b) (hbn : b ≤ n) (hs1 : Srt l a m) (hs2 : Srt l m b) (h1 : b = m + 1) (h2 : m ≠ a + 1) (w : World) (h : Rw w g n l) :
    Calls Try.prog 48 #[.slice (some ⟨g, 0, none⟩) n c, .int .i64 (a : Int), .int .i64 (m : Int), .int .i64 (b : Int), ord] w (SomeSort g n a b l w) := by
  have H0 := Lib.hid h
  have hl := h.1
  have ni : (n : Int) ≤ 100000 := by omega
  have HS1 := Lib.hid hs1
  obtain ⟨d, hd⟩ : ∃ d, m - a = d := ⟨_, rfl⟩
  have e0 : (m : Int) - (a : Int) = (d : Int) := by omega
  have e1 : (b : Int) - (m : Int) = 1 := by omega
  have d1 : ((d : Int) == 1) = false := by simp; omega
  have H1 := Lib.hid h1
  unfold ord
  clear h hs1 hs2 h1 h2 hd
  go_enter Try.func48, Try.ntmps48
  go_wp2
  go_loopw [14, 15] (fun s14 s15 wr => ∃ (i j : Nat) (V : World), V = wr ∧ a ≤ i ∧ i ≤ j ∧ j ≤ m ∧ s14 = .int .i64 (i : Int) ∧ s15 = .int .i64 (j : Int) ∧ (∀ q, a ≤ q → q < i → tm l q ≤ tm l m) ∧ (∀ q, j ≤ q → q < m → tm l m < tm l q) ∧ Bel w wr) (fun s14 s15 _ => (intOf s15).toNat - (intOf s14).toNat)
  case atStart => exact ⟨a, m, _, rfl, by omega, by omega, by omega, rfl, rfl, fun q q1 q2 => by omega, fun q q1 q2 => by omega, by first | exact Bel.rf | exact Bel.rf.drwN _⟩
  case round =>
    obtain ⟨i, j, wr, hwr, hmi, hij, hjb, rfl, rfl, k1, k2, hb⟩ := hrel
    subst hwr
    have HB := Lib.hid hb
    have HK1 := Lib.hid k1
    have HK2 := Lib.hid k2
    have HR := Lib.hid (H0.out.bel hb)
    clear k1 k2 hb
    rcases Nat.lt_or_ge i j with hlt | hge
    · obtain ⟨h, hh⟩ : ∃ h, (i + j) / 2 = h := ⟨_, rfl⟩
      obtain ⟨hh1, hh2⟩ := half_nat hh hlt
      have hhi : ((i : Int) + (j : Int)) / 2 = (h : Int) := by omega
      have cj := HR.out.2.2 m (by omega)
      have cq := HR.out.2.2 h (by omega)
      obtain ⟨t1, ht1⟩ : ∃ x, tm l m = x := ⟨_, rfl⟩
      obtain ⟨u1, hu1⟩ : ∃ x, vl l m = x := ⟨_, rfl⟩
      obtain ⟨t0, ht0⟩ : ∃ x, tm l h = x := ⟨_, rfl⟩
      obtain ⟨u0, hu0⟩ : ∃ x, vl l h = x := ⟨_, rfl⟩
      rw [ht1, hu1] at cj
      rw [ht0, hu0] at cq
      have HT := Lib.hid (And.intro ht1 ht0)
      have HKS : Hid (∀ W, Bel wr W → Bel wr W ∧ W.cell? ⟨g, m * 2, none⟩ = some (.int .i64 t1) ∧ W.cell? ⟨g, m * 2 + 1, none⟩ = some (.int .i64 u1) ∧ W.cell? ⟨g, h * 2, none⟩ = some (.int .i64 t0) ∧ W.cell? ⟨g, h * 2 + 1, none⟩ = some (.int .i64 u0)) := fun W hW => ⟨hW, hW.kp cj.1, hW.kp cj.2.1, hW.kp cq.1, hW.kp cq.2.1⟩
      obtain ⟨c1, c2, f1, f2⟩ := cj
      obtain ⟨c3, c4, f3, f4⟩ := cq
      have HOK : Hid (∀ W, Calls Try.prog 39 #[.agg #[.int .i64 t1, .int .i64 u1], .agg #[.int .i64 t0, .int .i64 u0]] W fun e w' => e = .returned (.int .i64 (cm t1 t0)) ∧ Bel W w') := ord_ok t1 u1 t0 u0
      obtain ⟨C, hC⟩ : ∃ x, cm t1 t0 = x := ⟨_, rfl⟩
      have hC3 := cm3 t1 t0
      rw [hC] at hC3
      have HC3 := Lib.hid hC3
      have hCl := cm_lt t1 t0
      rw [hC, ← ht1, ← ht0] at hCl
      rw [hC] at HOK
      have HCL := Lib.hid hCl
      clear hCl hC hC3 ht1 hu1 ht0 hu0
      have h_0 : (0 : Int) ≤ (h : Int) := by omega
      have h_1 : (h : Int) < (n : Int) := by omega
      have m_0 : (0 : Int) ≤ (m : Int) := by omega
      have m_1 : (m : Int) < (n : Int) := by omega
      have ti : (i : Int) < (j : Int) := by omega
      clear hh
      go_wp2
      go_region_held3 (fun W => Bel wr W ∧ W.cell? ⟨g, m * 2, none⟩ = some (.int .i64 t1) ∧ W.cell? ⟨g, m * 2 + 1, none⟩ = some (.int .i64 u1) ∧ W.cell? ⟨g, h * 2, none⟩ = some (.int .i64 t0) ∧ W.cell? ⟨g, h * 2 + 1, none⟩ = some (.int .i64 u0)) ((refine HKS.out _ ?_; repeat (first | exact HBX.out | exact Bel.rf | (with_reducible refine Bel.drwN ?_ _) | (with_reducible refine Bel.drw ?_)))) (first
        | (go_at_call 39; refine (HOK.out _).mono ?_; rintro e wz ⟨rfl, hbz⟩; have HBX : Hid (Bel wr wz) := Bel.tr (by repeat (first | exact Bel.rf | (with_reducible refine Bel.drwN ?_ _) | (with_reducible refine Bel.drw ?_))) hbz; clear hbz))
      clear c1 c2 f1 f2 c3 c4 f3 f4 HKS HOK
      rcases HC3.out with rfl | hc
      · have hq : tm l m < tm l h := HCL.out.1 (by decide)
        have HQ : Hid (∀ q, h ≤ q → q < m → tm l m < tm l q) := fun q q1 q2 => by
          by_cases e : q = h
          · rw [e]; exact hq
          · have := HS1.out h q (by omega) (by omega) q2
            omega
        clear hq
        go_wp2
        go_roundw
        case rel => exact ⟨i, h, _, rfl, by omega, by omega, by omega, rfl, rfl, HK1.out, HQ.out, by first | exact HB.out.tr HBX.out | exact (HB.out.tr HBX.out).drwN _⟩
        case measure => simp [intOf]; omega
      · have hq : tm l h ≤ tm l m := by
          have : ¬ tm l m < tm l h := fun x => by have := HCL.out.2 x; omega
          omega
        have HQ : Hid (∀ q, a ≤ q → q < h + 1 → tm l q ≤ tm l m) := fun q q1 q2 => by
          by_cases e : q = h
          · rw [e]; exact hq
          · have := HS1.out q h q1 (by omega) (by omega)
            omega
        clear hq
        rcases hc with rfl | rfl
        all_goals
          go_wp2
          go_roundw
          case rel => exact ⟨h + 1, j, _, rfl, by omega, by omega, hjb, by go_num, rfl, HQ.out, HK2.out, by first | exact HB.out.tr HBX.out | exact (HB.out.tr HBX.out).drwN _⟩
          case measure => simp [intOf]; omega
    · obtain rfl : i = j := by omega
      go_wp2
      go_loopw [17] (fun s17 wq => ∃ (k : Nat) (V : World) (l1 : List Rp), V = wq ∧ i ≤ k ∧ k ≤ m ∧ s17 = .int .i64 (k : Int) ∧ Rw wq g n l1 ∧ Dn l l1 m k ∧ Mv l l1 a b ∧ Ch g w wq) (fun s17 _ => (intOf s17).toNat)
      case atStart => exact ⟨m, _, l, rfl, by omega, by omega, rfl, by first | exact HR.out | exact HR.out.bel (Bel.rf.drwN _), dn_start l m, Rm.Mv.rf _ _ _, by first | exact Ch.of_bel HB.out | exact (Ch.of_bel HB.out).drwN _⟩
      case round =>
        obtain ⟨k, wq, l1, hwq, hik, hkm, rfl, hr, hu, hmv, hc⟩ := hrel
        subst hwq
        have HR2 := Lib.hid hr
        have HU2 := Lib.hid hu
        have HM2 := Lib.hid hmv
        have HC2 := Lib.hid hc
        clear hr hu hmv hc
        rcases Nat.lt_or_ge i k with hlt2 | hge2
        · obtain ⟨p, hp⟩ : ∃ p, k = p + 1 := ⟨k - 1, by omega⟩
          have ep : (k : Int) - 1 = (p : Int) := by omega
          have cp := HR2.out.2.2 k (by omega)
          have cq := HR2.out.2.2 p (by omega)
          have hsw := HR2.out.swp k p (by omega) (by omega)
          obtain ⟨t1, ht1⟩ : ∃ x, tm l1 k = x := ⟨_, rfl⟩
          obtain ⟨u1, hu1⟩ : ∃ x, vl l1 k = x := ⟨_, rfl⟩
          obtain ⟨t0, ht0⟩ : ∃ x, tm l1 p = x := ⟨_, rfl⟩
          obtain ⟨u0, hu0⟩ : ∃ x, vl l1 p = x := ⟨_, rfl⟩
          rw [ht1, hu1] at cp
          rw [ht0, hu0] at cq
          rw [ht1, hu1, ht0, hu0] at hsw
          have HSW := Lib.hid hsw
          obtain ⟨c1, c2, f1, f2⟩ := cp
          obtain ⟨c3, c4, f3, f4⟩ := cq
          have HCH : Hid (Ch g w ((((wq.setCell ⟨g, k * 2, none⟩ (.int .i64 t0)).setCell ⟨g, k * 2 + 1, none⟩ (.int .i64 u0)).setCell ⟨g, p * 2, none⟩ (.int .i64 t1)).setCell ⟨g, p * 2 + 1, none⟩ (.int .i64 u1))) := (((HC2.out.st _ _).st _ _).st _ _).st _ _
          clear hsw ht1 hu1 ht0 hu0
          have ll1 : l1.length = n := HR2.out.1
          have hEQ : Rm.swp l1 k p = Rm.swp l1 p (p + 1) := by rw [hp]; exact Rm.swp_comm _ _ _ (by omega)
          have HUP : Hid (Dn l (Rm.swp l1 k p) m p) := by
            show Dn _ _ _ _
            rw [hEQ]
            have h1 := HU2.out
            rw [hp] at h1
            exact dn_step h1 (by omega) (by omega)
          have HMV : Hid (Mv l (Rm.swp l1 k p) a b) := by
            show Mv _ _ _ _
            rw [hEQ]
            have h1 := HU2.out
            rw [hp] at h1
            have h3 := H1.out
            exact HM2.out.tr (mv_swp l1 p a b (by omega) (by omega) (by omega) (dn_lt h1 (HK2.out p (by omega) (by omega)))) (Nat.le_refl _) (Nat.le_refl _)
          have k_0 : (0 : Int) ≤ (k : Int) := by omega
          have k_1 : (k : Int) < (n : Int) := by omega
          have p_0 : (0 : Int) ≤ (p : Int) := by omega
          have p_1 : (p : Int) < (n : Int) := by omega
          have w_p : IntKind.i64.wrap (p : Int) = (p : Int) := IntWalk.i64_in _ (by omega)
          have tk : (i : Int) < (k : Int) := by omega
          have HPK := Lib.hid hp
          clear hp hEQ
          go_wp2
          go_region
          all_goals
            go_wp2
            go_roundw
            case rel => exact ⟨p, _, _, rfl, by have := HPK.out; omega, by have := HPK.out; omega, rfl, by first | exact HSW.out | exact HSW.out.bel Bel.rf.drw | exact HSW.out.bel (Bel.rf.drwN _), HUP.out, HMV.out, by first | exact HCH.out | exact HCH.out.drw | exact HCH.out.drwN _⟩
            case measure => have := HPK.out; simp [intOf]; omega
        · obtain rfl : k = i := by omega
          have HFIN : Hid (Srt l1 a b) := by
            show Srt _ _ _
            rw [H1.out]
            exact dn_done HU2.out hmi hkm HS1.out HK1.out HK2.out
          have tk : ¬ (k : Int) < (k : Int) := by omega
          go_wp2
          go_end0
          exact ⟨rfl, l1, HR2.out, HM2.out, HFIN.out, HC2.out⟩
end Go.Proofs.Ytgcjangnlbhicaa.St
