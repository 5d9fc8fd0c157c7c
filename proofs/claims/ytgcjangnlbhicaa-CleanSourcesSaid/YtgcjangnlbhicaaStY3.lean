/- slices.symMergeCmpFunc over readings, by time. -/
import Derived.Test.YtgcjangnlbhicaaStY0
namespace Go.Proofs.Ytgcjangnlbhicaa.St
open Go.ChangeShapes Go.WideShapes Go.RowKit Wo Sr Wi Rm Rg
set_option linter.unusedVariables false
set_option maxHeartbeats 16000000 in
set_option maxRecDepth 100000 in
theorem sym3 (g c n a m b B : Nat) (l : List Rp) (hn : n ≤ 100000) (hnc : n ≤ c) (ham : a < m) (hmb : m < b) (hbn : b ≤ n) (hs1 : Srt l a m) (hs2 : Srt l m b) (h1 : m ≠ a + 1) (h2 : b ≠ m + 1) (IH : ∀ (a m b : Nat) (l : List Rp) (w : World), b - a < B → a < m → m < b → b ≤ n → Srt l a m → Srt l m b → Rw w g n l → Calls Try.prog 48 #[.slice (some ⟨g, 0, none⟩) n c, .int .i64 (a : Int), .int .i64 (m : Int), .int .i64 (b : Int), .func (.func 39) #[] #[]] w (SomeSort g n a b l w)) (hB : b - a ≤ B) (w : World) (h : Rw w g n l) :
    Calls Try.prog 48 #[.slice (some ⟨g, 0, none⟩) n c, .int .i64 (a : Int), .int .i64 (m : Int), .int .i64 (b : Int), ord] w (SomeSort g n a b l w) := by
  have H0 := Lib.hid h
  have hl := h.1
  have ni : (n : Int) ≤ 100000 := by omega
  have HS1 := Lib.hid hs1
  have HS2 := Lib.hid hs2
  have HIH := Lib.hid IH
  obtain ⟨d, hd⟩ : ∃ d, m - a = d := ⟨_, rfl⟩
  obtain ⟨e, he⟩ : ∃ d, b - m = d := ⟨_, rfl⟩
  have e0 : (m : Int) - (a : Int) = (d : Int) := by omega
  have e1 : (b : Int) - (m : Int) = (e : Int) := by omega
  have d1 : ((d : Int) == 1) = false := by simp; omega
  have d2 : ((e : Int) == 1) = false := by simp; omega
  obtain ⟨mid, hmid⟩ : ∃ x, (a + b) / 2 = x := ⟨_, rfl⟩
  have e2 : ((a : Int) + (b : Int)) / 2 = (mid : Int) := by omega
  obtain ⟨N, hN⟩ : ∃ x, mid + m = x := ⟨_, rfl⟩
  have e3 : (mid : Int) + (m : Int) = (N : Int) := by omega
  obtain ⟨pp, hpp⟩ : ∃ x, N - 1 = x := ⟨_, rfl⟩
  have e4 : (N : Int) - 1 = (pp : Int) := by omega
  have HMID : Hid ((a + b) / 2 = mid ∧ mid + m = N ∧ N = pp + 1) := ⟨hmid, hN, by omega⟩
  unfold ord
  clear h hs1 hs2 IH hd he hmid hN hpp h1 h2
  rcases Nat.lt_or_ge mid m with hgt | hle
  · obtain ⟨s0, hs0⟩ : ∃ x, N - b = x := ⟨_, rfl⟩
    have e5 : (N : Int) - (b : Int) = (s0 : Int) := by have := HMID.out; omega
    have k1 : decide ((mid : Int) < (m : Int)) = true := decide_eq_true (by omega)
    have k2 : (mid : Int) < (m : Int) := by omega
    have HR0 : Hid (s0 + b = N ∧ mid < m) := by have := HMID.out; exact ⟨by omega, hgt⟩
    have HH3 : Hid (∀ c, s0 ≤ c → c < mid → m ≤ pp - c ∧ pp - c < b ∧ c ≤ pp) := fun c c1 c2 => by have := HMID.out; have := HR0.out; omega
    have HQ : Hid (a ≤ s0 ∧ s0 ≤ mid ∧ mid ≤ m) := by have := HMID.out; have := HR0.out; exact ⟨by omega, by omega, by omega⟩
    clear hgt hs0
    go_enter Try.func48, Try.ntmps48
    go_wp2
    go_loopw [20, 21] (fun s20 s21 wr => ∃ (s r : Nat) (V : World), V = wr ∧ s20 = .int .i64 (s : Int) ∧ s21 = .int .i64 (r : Int) ∧ Sea l s0 mid pp s r ∧ Bel w wr) (fun s20 s21 _ => (intOf s21).toNat - (intOf s20).toNat)
    case atStart => exact ⟨s0, mid, _, rfl, rfl, rfl, ⟨by omega, HQ.out.2.1, by omega, fun c c1 c2 => by omega, fun c c1 c2 => by omega⟩, by first | exact Bel.rf | exact Bel.rf.drwN _⟩
    case round =>
      obtain ⟨s, r, wr, hwr, rfl, rfl, hsea, hb⟩ := hrel
      subst hwr
      have HB := Lib.hid hb
      have HSEA := Lib.hid hsea
      have HR := Lib.hid (H0.out.bel hb)
      have sb : s0 ≤ s ∧ s ≤ r ∧ r ≤ mid := ⟨hsea.1, hsea.2.1, hsea.2.2.1⟩
      obtain ⟨sb1, sb2, sb3⟩ := sb
      have hq3 := HQ.out
      have hq4 := HMID.out
      have r1 : r ≤ 100000 := by omega
      clear hsea hb hq3 hq4
      rcases Nat.lt_or_ge s r with hlt | hge
      · obtain ⟨k, hk⟩ : ∃ k, (s + r) / 2 = k := ⟨_, rfl⟩
        obtain ⟨hk1, hk2⟩ := half_nat hk hlt
        have hki : ((s : Int) + (r : Int)) / 2 = (k : Int) := by omega
        obtain ⟨pc, hpc⟩ : ∃ x, pp - k = x := ⟨_, rfl⟩
        have h3 := HH3.out k (by omega) (by omega)
        have h4 := HQ.out
        have epc : (pp : Int) - (k : Int) = (pc : Int) := by omega
        have HPC : Hid (pp - k = pc) := hpc
        have pcn : pc < n := by omega
        have kn : k < n := by omega
        clear h3 h4 hpc
        have cj := HR.out.2.2 pc (by omega)
        have cq := HR.out.2.2 k (by omega)
        obtain ⟨t1, ht1⟩ : ∃ x, tm l pc = x := ⟨_, rfl⟩
        obtain ⟨u1, hu1⟩ : ∃ x, vl l pc = x := ⟨_, rfl⟩
        obtain ⟨t0, ht0⟩ : ∃ x, tm l k = x := ⟨_, rfl⟩
        obtain ⟨u0, hu0⟩ : ∃ x, vl l k = x := ⟨_, rfl⟩
        rw [ht1, hu1] at cj
        rw [ht0, hu0] at cq
        have HT := Lib.hid (And.intro ht1 ht0)
        have HKS : Hid (∀ W, Bel wr W → Bel wr W ∧ W.cell? ⟨g, pc * 2, none⟩ = some (.int .i64 t1) ∧ W.cell? ⟨g, pc * 2 + 1, none⟩ = some (.int .i64 u1) ∧ W.cell? ⟨g, k * 2, none⟩ = some (.int .i64 t0) ∧ W.cell? ⟨g, k * 2 + 1, none⟩ = some (.int .i64 u0)) := fun W hW => ⟨hW, hW.kp cj.1, hW.kp cj.2.1, hW.kp cq.1, hW.kp cq.2.1⟩
        obtain ⟨c1, c2, f1, f2⟩ := cj
        obtain ⟨c3, c4, f3, f4⟩ := cq
        have HOK : Hid (∀ W, Calls Try.prog 39 #[.agg #[.int .i64 t1, .int .i64 u1], .agg #[.int .i64 t0, .int .i64 u0]] W fun e w' => e = .returned (.int .i64 (cm t1 t0)) ∧ Bel W w') := ord_ok t1 u1 t0 u0
        obtain ⟨C, hC⟩ : ∃ x, cm t1 t0 = x := ⟨_, rfl⟩
        have hC3 := cm3 t1 t0
        rw [hC] at hC3
        have HC3 := Lib.hid hC3
        have hCl := cm_lt t1 t0
        rw [hC, ← ht1, ← ht0] at hCl
        rw [hC] at HOK
        have HCL := Lib.hid hCl
        clear hCl hC hC3 ht1 hu1 ht0 hu0
        have pc_0 : (0 : Int) ≤ (pc : Int) := by omega
        have pc_1 : (pc : Int) < (n : Int) := by omega
        have k_0 : (0 : Int) ≤ (k : Int) := by omega
        have k_1 : (k : Int) < (n : Int) := by omega
        have w_pc : IntKind.i64.wrap (pc : Int) = (pc : Int) := IntWalk.i64_in _ (by omega)
        have ti : (s : Int) < (r : Int) := by omega
        clear hk
        go_wp2
        go_region_held3 (fun W => Bel wr W ∧ W.cell? ⟨g, pc * 2, none⟩ = some (.int .i64 t1) ∧ W.cell? ⟨g, pc * 2 + 1, none⟩ = some (.int .i64 u1) ∧ W.cell? ⟨g, k * 2, none⟩ = some (.int .i64 t0) ∧ W.cell? ⟨g, k * 2 + 1, none⟩ = some (.int .i64 u0)) ((refine HKS.out _ ?_; repeat (first | exact HBX.out | exact Bel.rf | (with_reducible refine Bel.drwN ?_ _) | (with_reducible refine Bel.drw ?_)))) (first
          | (go_at_call 39; refine (HOK.out _).mono ?_; rintro e wz ⟨rfl, hbz⟩; have HBX : Hid (Bel wr wz) := Bel.tr (by repeat (first | exact Bel.rf | (with_reducible refine Bel.drwN ?_ _) | (with_reducible refine Bel.drw ?_))) hbz; clear hbz))
        clear c1 c2 f1 f2 c3 c4 f3 f4 HKS HOK
        rcases HC3.out with rfl | hc
        · have hq : tm l (pp - k) < tm l k := by rw [HPC.out]; exact HCL.out.1 (by decide)
          have HN : Hid (Sea l s0 mid pp s k) := sea_no HSEA.out HS1.out HS2.out HQ.out.1 HQ.out.2.2 HH3.out hk1 hk2 hq
          clear hq
          go_wp2
          go_roundw
          case rel => exact ⟨s, k, _, rfl, rfl, rfl, HN.out, by first | exact HB.out.tr HBX.out | exact (HB.out.tr HBX.out).drwN _⟩
          case measure => simp [intOf]; omega
        · have hq : tm l k ≤ tm l (pp - k) := by
            rw [HPC.out]
            have : ¬ tm l pc < tm l k := fun x => by have := HCL.out.2 x; omega
            omega
          have HN : Hid (Sea l s0 mid pp (k + 1) r) := sea_yes HSEA.out HS1.out HS2.out HQ.out.1 HQ.out.2.2 HH3.out hk1 hk2 hq
          clear hq
          rcases hc with rfl | rfl
          all_goals
            go_wp2
            go_roundw
            case rel => exact ⟨k + 1, r, _, rfl, by go_num, rfl, HN.out, by first | exact HB.out.tr HBX.out | exact (HB.out.tr HBX.out).drwN _⟩
            case measure => simp [intOf]; omega
      · obtain rfl : s = r := by omega
        obtain ⟨en, hen⟩ : ∃ x, N - s = x := ⟨_, rfl⟩
        have hm := HMID.out
        have hr0 := HR0.out
        have hq := HQ.out
        have eN : (N : Int) - (s : Int) = (en : Int) := by omega
        have g1 : a ≤ s := by omega
        have g2 : s ≤ m := by omega
        have g3 : m ≤ en := by omega
        have g4 : en ≤ b := by omega
        have g5 : en + s = mid + m := by omega
        have g6 : s ≤ mid := by omega
        have g7 : mid ≤ en := by omega
        have F1 : Hid (s < m → m < en → tm l (en - 1) < tm l s) := fun x1 x2 => by
          have := HSEA.out.2.2.2.2 s (Nat.le_refl _) (by omega)
          rwa [show pp - s = en - 1 by omega] at this
        have F2 : Hid (a < s → en < b → tm l (s - 1) ≤ tm l en) := fun x1 x2 => by
          have := HSEA.out.2.2.2.1 (s - 1) (by omega) (by omega)
          rwa [show pp - (s - 1) = en by omega] at this
        have HG := Lib.hid (And.intro g1 (And.intro g2 (And.intro g3 (And.intro g4 (And.intro g5 (And.intro g6 g7))))))
        have HBW : Hid (Ch g w wr) := Ch.of_bel HB.out
        clear HSEA HH3 hm hr0 hq hen
        rcases (show (s < m ∧ m < en) ∨ (¬ s < m) ∨ (s < m ∧ ¬ m < en) by omega) with hcase | hcase | hcase
        · have q_sm : decide ((s : Int) < (m : Int)) = true := decide_eq_true (by omega)
          have n_sm : (s : Int) < (m : Int) := by omega
          have q_men : decide ((m : Int) < (en : Int)) = true := decide_eq_true (by omega)
          have n_men : (m : Int) < (en : Int) := by omega
          go_wp2_with fail
          go_at_call 49
          refine (rotate_ok g c n s m en l _ hn hnc (by omega) (by omega) (by omega) _ (by first | exact HR.out | exact HR.out.bel (Bel.rf.drwN _))).mono ?_
          rintro e w3 ⟨rfl, l1, hr3, hro, hc3⟩
          have HROT := Lib.hid hro
          have HR3 := Lib.hid hr3
          have HC3 := Lib.hid (HBW.out.tr (by first | exact hc3 | exact (Ch.of_bel (Bel.rf.drwN _)).tr hc3))
          clear hr3 hro hc3
          have HSRT := Lib.hid (rot_srt HS1.out HS2.out g1 g2 g3 g4 g5 g6 g7 HROT.out)
          rcases (show (a < s ∧ s < mid) ∨ (¬ a < s) ∨ (a < s ∧ ¬ s < mid) by omega) with hcase | hcase | hcase
          · have q_as : decide ((a : Int) < (s : Int)) = true := decide_eq_true (by omega)
            have n_as : (a : Int) < (s : Int) := by omega
            have q_smid : decide ((s : Int) < (mid : Int)) = true := decide_eq_true (by omega)
            have n_smid : (s : Int) < (mid : Int) := by omega
            go_wp2_with fail
            go_at_call 48
            refine (HIH.out a s mid l1 _ (by omega) (by omega) (by omega) (by omega) HSRT.out.1 HSRT.out.2.1 HR3.out).mono ?_
            rintro e w4 ⟨rfl, l2, hr4, hm4, hs4, hc4⟩
            have HR4 := Lib.hid hr4
            have HM4 := Lib.hid (And.intro hm4 hs4)
            have HC4 := Lib.hid (HC3.out.tr hc4)
            clear hr4 hm4 hs4 hc4
            rcases (show (mid < en ∧ en < b) ∨ (¬ mid < en) ∨ (mid < en ∧ ¬ en < b) by omega) with hcase | hcase | hcase
            · have q_miden : decide ((mid : Int) < (en : Int)) = true := decide_eq_true (by omega)
              have n_miden : (mid : Int) < (en : Int) := by omega
              have q_enb : decide ((en : Int) < (b : Int)) = true := decide_eq_true (by omega)
              have n_enb : (en : Int) < (b : Int) := by omega
              go_wp2_with fail
              go_at_call 48
              refine (HIH.out mid en b l2 _ (by omega) (by omega) (by omega) (by omega) (HM4.out.1.srt HSRT.out.2.2.1 (by omega)) (HM4.out.1.srt HSRT.out.2.2.2 (by omega)) HR4.out).mono ?_
              rintro e w5 ⟨rfl, l3, hr5, hm5, hs5, hc5⟩
              have HR5 := Lib.hid hr5
              have HM5 := Lib.hid (And.intro hm5 hs5)
              have HC5 := Lib.hid (HC4.out.tr hc5)
              clear hr5 hm5 hs5 hc5
              go_wp2
              go_end0
              have FN := sym_done ham hmb (by rw [hl]; exact hbn) HS1.out HS2.out HG.out.1 HG.out.2.1 HG.out.2.2.1 HG.out.2.2.2.1 HG.out.2.2.2.2.1 HG.out.2.2.2.2.2.1 HG.out.2.2.2.2.2.2 F1.out F2.out HROT.out (.inl HM4.out) (.inl HM5.out)
              exact ⟨rfl, _, HR5.out, FN.1, FN.2, HC5.out⟩
            · have q_miden : decide ((mid : Int) < (en : Int)) = false := decide_eq_false (by omega)
              have n_miden : ¬ (mid : Int) < (en : Int) := by omega
              go_wp2
              go_end0
              have FN := sym_done ham hmb (by rw [hl]; exact hbn) HS1.out HS2.out HG.out.1 HG.out.2.1 HG.out.2.2.1 HG.out.2.2.2.1 HG.out.2.2.2.2.1 HG.out.2.2.2.2.2.1 HG.out.2.2.2.2.2.2 F1.out F2.out HROT.out (.inl HM4.out) (.inr ⟨rfl, by omega⟩)
              exact ⟨rfl, _, HR4.out, FN.1, FN.2, HC4.out⟩
            · have q_miden : decide ((mid : Int) < (en : Int)) = true := decide_eq_true (by omega)
              have n_miden : (mid : Int) < (en : Int) := by omega
              have q_enb : decide ((en : Int) < (b : Int)) = false := decide_eq_false (by omega)
              have n_enb : ¬ (en : Int) < (b : Int) := by omega
              go_wp2
              go_end0
              have FN := sym_done ham hmb (by rw [hl]; exact hbn) HS1.out HS2.out HG.out.1 HG.out.2.1 HG.out.2.2.1 HG.out.2.2.2.1 HG.out.2.2.2.2.1 HG.out.2.2.2.2.2.1 HG.out.2.2.2.2.2.2 F1.out F2.out HROT.out (.inl HM4.out) (.inr ⟨rfl, by omega⟩)
              exact ⟨rfl, _, HR4.out, FN.1, FN.2, HC4.out⟩
          · have q_as : decide ((a : Int) < (s : Int)) = false := decide_eq_false (by omega)
            have n_as : ¬ (a : Int) < (s : Int) := by omega
            rcases (show (mid < en ∧ en < b) ∨ (¬ mid < en) ∨ (mid < en ∧ ¬ en < b) by omega) with hcase | hcase | hcase
            · have q_miden : decide ((mid : Int) < (en : Int)) = true := decide_eq_true (by omega)
              have n_miden : (mid : Int) < (en : Int) := by omega
              have q_enb : decide ((en : Int) < (b : Int)) = true := decide_eq_true (by omega)
              have n_enb : (en : Int) < (b : Int) := by omega
              go_wp2_with fail
              go_at_call 48
              refine (HIH.out mid en b l1 _ (by omega) (by omega) (by omega) (by omega) HSRT.out.2.2.1 HSRT.out.2.2.2 HR3.out).mono ?_
              rintro e w5 ⟨rfl, l3, hr5, hm5, hs5, hc5⟩
              have HR5 := Lib.hid hr5
              have HM5 := Lib.hid (And.intro hm5 hs5)
              have HC5 := Lib.hid (HC3.out.tr hc5)
              clear hr5 hm5 hs5 hc5
              go_wp2
              go_end0
              have FN := sym_done ham hmb (by rw [hl]; exact hbn) HS1.out HS2.out HG.out.1 HG.out.2.1 HG.out.2.2.1 HG.out.2.2.2.1 HG.out.2.2.2.2.1 HG.out.2.2.2.2.2.1 HG.out.2.2.2.2.2.2 F1.out F2.out HROT.out (.inr ⟨rfl, by omega⟩) (.inl HM5.out)
              exact ⟨rfl, _, HR5.out, FN.1, FN.2, HC5.out⟩
            · have q_miden : decide ((mid : Int) < (en : Int)) = false := decide_eq_false (by omega)
              have n_miden : ¬ (mid : Int) < (en : Int) := by omega
              go_wp2
              go_end0
              have FN := sym_done ham hmb (by rw [hl]; exact hbn) HS1.out HS2.out HG.out.1 HG.out.2.1 HG.out.2.2.1 HG.out.2.2.2.1 HG.out.2.2.2.2.1 HG.out.2.2.2.2.2.1 HG.out.2.2.2.2.2.2 F1.out F2.out HROT.out (.inr ⟨rfl, by omega⟩) (.inr ⟨rfl, by omega⟩)
              exact ⟨rfl, _, HR3.out, FN.1, FN.2, HC3.out⟩
            · have q_miden : decide ((mid : Int) < (en : Int)) = true := decide_eq_true (by omega)
              have n_miden : (mid : Int) < (en : Int) := by omega
              have q_enb : decide ((en : Int) < (b : Int)) = false := decide_eq_false (by omega)
              have n_enb : ¬ (en : Int) < (b : Int) := by omega
              go_wp2
              go_end0
              have FN := sym_done ham hmb (by rw [hl]; exact hbn) HS1.out HS2.out HG.out.1 HG.out.2.1 HG.out.2.2.1 HG.out.2.2.2.1 HG.out.2.2.2.2.1 HG.out.2.2.2.2.2.1 HG.out.2.2.2.2.2.2 F1.out F2.out HROT.out (.inr ⟨rfl, by omega⟩) (.inr ⟨rfl, by omega⟩)
              exact ⟨rfl, _, HR3.out, FN.1, FN.2, HC3.out⟩
          · have q_as : decide ((a : Int) < (s : Int)) = true := decide_eq_true (by omega)
            have n_as : (a : Int) < (s : Int) := by omega
            have q_smid : decide ((s : Int) < (mid : Int)) = false := decide_eq_false (by omega)
            have n_smid : ¬ (s : Int) < (mid : Int) := by omega
            rcases (show (mid < en ∧ en < b) ∨ (¬ mid < en) ∨ (mid < en ∧ ¬ en < b) by omega) with hcase | hcase | hcase
            · have q_miden : decide ((mid : Int) < (en : Int)) = true := decide_eq_true (by omega)
              have n_miden : (mid : Int) < (en : Int) := by omega
              have q_enb : decide ((en : Int) < (b : Int)) = true := decide_eq_true (by omega)
              have n_enb : (en : Int) < (b : Int) := by omega
              go_wp2_with fail
              go_at_call 48
              refine (HIH.out mid en b l1 _ (by omega) (by omega) (by omega) (by omega) HSRT.out.2.2.1 HSRT.out.2.2.2 HR3.out).mono ?_
              rintro e w5 ⟨rfl, l3, hr5, hm5, hs5, hc5⟩
              have HR5 := Lib.hid hr5
              have HM5 := Lib.hid (And.intro hm5 hs5)
              have HC5 := Lib.hid (HC3.out.tr hc5)
              clear hr5 hm5 hs5 hc5
              go_wp2
              go_end0
              have FN := sym_done ham hmb (by rw [hl]; exact hbn) HS1.out HS2.out HG.out.1 HG.out.2.1 HG.out.2.2.1 HG.out.2.2.2.1 HG.out.2.2.2.2.1 HG.out.2.2.2.2.2.1 HG.out.2.2.2.2.2.2 F1.out F2.out HROT.out (.inr ⟨rfl, by omega⟩) (.inl HM5.out)
              exact ⟨rfl, _, HR5.out, FN.1, FN.2, HC5.out⟩
            · have q_miden : decide ((mid : Int) < (en : Int)) = false := decide_eq_false (by omega)
              have n_miden : ¬ (mid : Int) < (en : Int) := by omega
              go_wp2
              go_end0
              have FN := sym_done ham hmb (by rw [hl]; exact hbn) HS1.out HS2.out HG.out.1 HG.out.2.1 HG.out.2.2.1 HG.out.2.2.2.1 HG.out.2.2.2.2.1 HG.out.2.2.2.2.2.1 HG.out.2.2.2.2.2.2 F1.out F2.out HROT.out (.inr ⟨rfl, by omega⟩) (.inr ⟨rfl, by omega⟩)
              exact ⟨rfl, _, HR3.out, FN.1, FN.2, HC3.out⟩
            · have q_miden : decide ((mid : Int) < (en : Int)) = true := decide_eq_true (by omega)
              have n_miden : (mid : Int) < (en : Int) := by omega
              have q_enb : decide ((en : Int) < (b : Int)) = false := decide_eq_false (by omega)
              have n_enb : ¬ (en : Int) < (b : Int) := by omega
              go_wp2
              go_end0
              have FN := sym_done ham hmb (by rw [hl]; exact hbn) HS1.out HS2.out HG.out.1 HG.out.2.1 HG.out.2.2.1 HG.out.2.2.2.1 HG.out.2.2.2.2.1 HG.out.2.2.2.2.2.1 HG.out.2.2.2.2.2.2 F1.out F2.out HROT.out (.inr ⟨rfl, by omega⟩) (.inr ⟨rfl, by omega⟩)
              exact ⟨rfl, _, HR3.out, FN.1, FN.2, HC3.out⟩
        · have q_sm : decide ((s : Int) < (m : Int)) = false := decide_eq_false (by omega)
          have n_sm : ¬ (s : Int) < (m : Int) := by omega
          have HROT : Hid (Rot l l s m en) := rot_id (.inl (by omega)) g2 g3
          have HSRT := Lib.hid (rot_srt HS1.out HS2.out g1 g2 g3 g4 g5 g6 g7 HROT.out)
          rcases (show (a < s ∧ s < mid) ∨ (a < s ∧ ¬ s < mid) by omega) with hcase | hcase
          · have q_as : decide ((a : Int) < (s : Int)) = true := decide_eq_true (by omega)
            have n_as : (a : Int) < (s : Int) := by omega
            have q_smid : decide ((s : Int) < (mid : Int)) = true := decide_eq_true (by omega)
            have n_smid : (s : Int) < (mid : Int) := by omega
            go_wp2_with fail
            go_at_call 48
            refine (HIH.out a s mid l _ (by omega) (by omega) (by omega) (by omega) HSRT.out.1 HSRT.out.2.1 HR.out).mono ?_
            rintro e w4 ⟨rfl, l2, hr4, hm4, hs4, hc4⟩
            have HR4 := Lib.hid hr4
            have HM4 := Lib.hid (And.intro hm4 hs4)
            have HC4 := Lib.hid (HBW.out.tr hc4)
            clear hr4 hm4 hs4 hc4
            have hcase : ¬ mid < en := by omega
            have q_miden : decide ((mid : Int) < (en : Int)) = false := decide_eq_false (by omega)
            have n_miden : ¬ (mid : Int) < (en : Int) := by omega
            go_wp2
            go_end0
            have FN := sym_done ham hmb (by rw [hl]; exact hbn) HS1.out HS2.out HG.out.1 HG.out.2.1 HG.out.2.2.1 HG.out.2.2.2.1 HG.out.2.2.2.2.1 HG.out.2.2.2.2.2.1 HG.out.2.2.2.2.2.2 F1.out F2.out HROT.out (.inl HM4.out) (.inr ⟨rfl, by omega⟩)
            exact ⟨rfl, _, HR4.out, FN.1, FN.2, HC4.out⟩
          · have q_as : decide ((a : Int) < (s : Int)) = true := decide_eq_true (by omega)
            have n_as : (a : Int) < (s : Int) := by omega
            have q_smid : decide ((s : Int) < (mid : Int)) = false := decide_eq_false (by omega)
            have n_smid : ¬ (s : Int) < (mid : Int) := by omega
            have hcase : ¬ mid < en := by omega
            have q_miden : decide ((mid : Int) < (en : Int)) = false := decide_eq_false (by omega)
            have n_miden : ¬ (mid : Int) < (en : Int) := by omega
            go_wp2
            go_end0
            have FN := sym_done ham hmb (by rw [hl]; exact hbn) HS1.out HS2.out HG.out.1 HG.out.2.1 HG.out.2.2.1 HG.out.2.2.2.1 HG.out.2.2.2.2.1 HG.out.2.2.2.2.2.1 HG.out.2.2.2.2.2.2 F1.out F2.out HROT.out (.inr ⟨rfl, by omega⟩) (.inr ⟨rfl, by omega⟩)
            exact ⟨rfl, _, HR.out, FN.1, FN.2, HBW.out⟩
        · have q_sm : decide ((s : Int) < (m : Int)) = true := decide_eq_true (by omega)
          have n_sm : (s : Int) < (m : Int) := by omega
          have q_men : decide ((m : Int) < (en : Int)) = false := decide_eq_false (by omega)
          have n_men : ¬ (m : Int) < (en : Int) := by omega
          have HROT : Hid (Rot l l s m en) := rot_id (.inr (by omega)) g2 g3
          have HSRT := Lib.hid (rot_srt HS1.out HS2.out g1 g2 g3 g4 g5 g6 g7 HROT.out)
          rcases (show (¬ a < s) ∨ (a < s ∧ ¬ s < mid) by omega) with hcase | hcase
          · have q_as : decide ((a : Int) < (s : Int)) = false := decide_eq_false (by omega)
            have n_as : ¬ (a : Int) < (s : Int) := by omega
            have hcase : mid < en ∧ en < b := by omega
            have q_miden : decide ((mid : Int) < (en : Int)) = true := decide_eq_true (by omega)
            have n_miden : (mid : Int) < (en : Int) := by omega
            have q_enb : decide ((en : Int) < (b : Int)) = true := decide_eq_true (by omega)
            have n_enb : (en : Int) < (b : Int) := by omega
            go_wp2_with fail
            go_at_call 48
            refine (HIH.out mid en b l _ (by omega) (by omega) (by omega) (by omega) HSRT.out.2.2.1 HSRT.out.2.2.2 HR.out).mono ?_
            rintro e w5 ⟨rfl, l3, hr5, hm5, hs5, hc5⟩
            have HR5 := Lib.hid hr5
            have HM5 := Lib.hid (And.intro hm5 hs5)
            have HC5 := Lib.hid (HBW.out.tr hc5)
            clear hr5 hm5 hs5 hc5
            go_wp2
            go_end0
            have FN := sym_done ham hmb (by rw [hl]; exact hbn) HS1.out HS2.out HG.out.1 HG.out.2.1 HG.out.2.2.1 HG.out.2.2.2.1 HG.out.2.2.2.2.1 HG.out.2.2.2.2.2.1 HG.out.2.2.2.2.2.2 F1.out F2.out HROT.out (.inr ⟨rfl, by omega⟩) (.inl HM5.out)
            exact ⟨rfl, _, HR5.out, FN.1, FN.2, HC5.out⟩
          · have q_as : decide ((a : Int) < (s : Int)) = true := decide_eq_true (by omega)
            have n_as : (a : Int) < (s : Int) := by omega
            have q_smid : decide ((s : Int) < (mid : Int)) = false := decide_eq_false (by omega)
            have n_smid : ¬ (s : Int) < (mid : Int) := by omega
            have hcase : mid < en ∧ en < b := by omega
            have q_miden : decide ((mid : Int) < (en : Int)) = true := decide_eq_true (by omega)
            have n_miden : (mid : Int) < (en : Int) := by omega
            have q_enb : decide ((en : Int) < (b : Int)) = true := decide_eq_true (by omega)
            have n_enb : (en : Int) < (b : Int) := by omega
            go_wp2_with fail
            go_at_call 48
            refine (HIH.out mid en b l _ (by omega) (by omega) (by omega) (by omega) HSRT.out.2.2.1 HSRT.out.2.2.2 HR.out).mono ?_
            rintro e w5 ⟨rfl, l3, hr5, hm5, hs5, hc5⟩
            have HR5 := Lib.hid hr5
            have HM5 := Lib.hid (And.intro hm5 hs5)
            have HC5 := Lib.hid (HBW.out.tr hc5)
            clear hr5 hm5 hs5 hc5
            go_wp2
            go_end0
            have FN := sym_done ham hmb (by rw [hl]; exact hbn) HS1.out HS2.out HG.out.1 HG.out.2.1 HG.out.2.2.1 HG.out.2.2.2.1 HG.out.2.2.2.2.1 HG.out.2.2.2.2.2.1 HG.out.2.2.2.2.2.2 F1.out F2.out HROT.out (.inr ⟨rfl, by omega⟩) (.inl HM5.out)
            exact ⟨rfl, _, HR5.out, FN.1, FN.2, HC5.out⟩
  · have k1 : decide ((mid : Int) < (m : Int)) = false := decide_eq_false (by omega)
    have k2 : ¬ (mid : Int) < (m : Int) := by omega
    have HR0 : Hid (m ≤ mid) := hle
    have HH3 : Hid (∀ c, a ≤ c → c < m → m ≤ pp - c ∧ pp - c < b ∧ c ≤ pp) := fun c c1 c2 => by have := HMID.out; have := HR0.out; omega
    have HQ : Hid (a ≤ a ∧ a ≤ m ∧ m ≤ m) := ⟨by omega, by omega, by omega⟩
    clear hle
    go_enter Try.func48, Try.ntmps48
    go_wp2
    go_loopw [20, 21] (fun s20 s21 wr => ∃ (s r : Nat) (V : World), V = wr ∧ s20 = .int .i64 (s : Int) ∧ s21 = .int .i64 (r : Int) ∧ Sea l a m pp s r ∧ Bel w wr) (fun s20 s21 _ => (intOf s21).toNat - (intOf s20).toNat)
    case atStart => exact ⟨a, m, _, rfl, rfl, rfl, ⟨by omega, HQ.out.2.1, by omega, fun c c1 c2 => by omega, fun c c1 c2 => by omega⟩, by first | exact Bel.rf | exact Bel.rf.drwN _⟩
    case round =>
      obtain ⟨s, r, wr, hwr, rfl, rfl, hsea, hb⟩ := hrel
      subst hwr
      have HB := Lib.hid hb
      have HSEA := Lib.hid hsea
      have HR := Lib.hid (H0.out.bel hb)
      have sb : a ≤ s ∧ s ≤ r ∧ r ≤ m := ⟨hsea.1, hsea.2.1, hsea.2.2.1⟩
      obtain ⟨sb1, sb2, sb3⟩ := sb
      have hq3 := HQ.out
      have hq4 := HMID.out
      have r1 : r ≤ 100000 := by omega
      clear hsea hb hq3 hq4
      rcases Nat.lt_or_ge s r with hlt | hge
      · obtain ⟨k, hk⟩ : ∃ k, (s + r) / 2 = k := ⟨_, rfl⟩
        obtain ⟨hk1, hk2⟩ := half_nat hk hlt
        have hki : ((s : Int) + (r : Int)) / 2 = (k : Int) := by omega
        obtain ⟨pc, hpc⟩ : ∃ x, pp - k = x := ⟨_, rfl⟩
        have h3 := HH3.out k (by omega) (by omega)
        have h4 := HQ.out
        have epc : (pp : Int) - (k : Int) = (pc : Int) := by omega
        have HPC : Hid (pp - k = pc) := hpc
        have pcn : pc < n := by omega
        have kn : k < n := by omega
        clear h3 h4 hpc
        have cj := HR.out.2.2 pc (by omega)
        have cq := HR.out.2.2 k (by omega)
        obtain ⟨t1, ht1⟩ : ∃ x, tm l pc = x := ⟨_, rfl⟩
        obtain ⟨u1, hu1⟩ : ∃ x, vl l pc = x := ⟨_, rfl⟩
        obtain ⟨t0, ht0⟩ : ∃ x, tm l k = x := ⟨_, rfl⟩
        obtain ⟨u0, hu0⟩ : ∃ x, vl l k = x := ⟨_, rfl⟩
        rw [ht1, hu1] at cj
        rw [ht0, hu0] at cq
        have HT := Lib.hid (And.intro ht1 ht0)
        have HKS : Hid (∀ W, Bel wr W → Bel wr W ∧ W.cell? ⟨g, pc * 2, none⟩ = some (.int .i64 t1) ∧ W.cell? ⟨g, pc * 2 + 1, none⟩ = some (.int .i64 u1) ∧ W.cell? ⟨g, k * 2, none⟩ = some (.int .i64 t0) ∧ W.cell? ⟨g, k * 2 + 1, none⟩ = some (.int .i64 u0)) := fun W hW => ⟨hW, hW.kp cj.1, hW.kp cj.2.1, hW.kp cq.1, hW.kp cq.2.1⟩
        obtain ⟨c1, c2, f1, f2⟩ := cj
        obtain ⟨c3, c4, f3, f4⟩ := cq
        have HOK : Hid (∀ W, Calls Try.prog 39 #[.agg #[.int .i64 t1, .int .i64 u1], .agg #[.int .i64 t0, .int .i64 u0]] W fun e w' => e = .returned (.int .i64 (cm t1 t0)) ∧ Bel W w') := ord_ok t1 u1 t0 u0
        obtain ⟨C, hC⟩ : ∃ x, cm t1 t0 = x := ⟨_, rfl⟩
        have hC3 := cm3 t1 t0
        rw [hC] at hC3
        have HC3 := Lib.hid hC3
        have hCl := cm_lt t1 t0
        rw [hC, ← ht1, ← ht0] at hCl
        rw [hC] at HOK
        have HCL := Lib.hid hCl
        clear hCl hC hC3 ht1 hu1 ht0 hu0
        have pc_0 : (0 : Int) ≤ (pc : Int) := by omega
        have pc_1 : (pc : Int) < (n : Int) := by omega
        have k_0 : (0 : Int) ≤ (k : Int) := by omega
        have k_1 : (k : Int) < (n : Int) := by omega
        have w_pc : IntKind.i64.wrap (pc : Int) = (pc : Int) := IntWalk.i64_in _ (by omega)
        have ti : (s : Int) < (r : Int) := by omega
        clear hk
        go_wp2
        go_region_held3 (fun W => Bel wr W ∧ W.cell? ⟨g, pc * 2, none⟩ = some (.int .i64 t1) ∧ W.cell? ⟨g, pc * 2 + 1, none⟩ = some (.int .i64 u1) ∧ W.cell? ⟨g, k * 2, none⟩ = some (.int .i64 t0) ∧ W.cell? ⟨g, k * 2 + 1, none⟩ = some (.int .i64 u0)) ((refine HKS.out _ ?_; repeat (first | exact HBX.out | exact Bel.rf | (with_reducible refine Bel.drwN ?_ _) | (with_reducible refine Bel.drw ?_)))) (first
          | (go_at_call 39; refine (HOK.out _).mono ?_; rintro e wz ⟨rfl, hbz⟩; have HBX : Hid (Bel wr wz) := Bel.tr (by repeat (first | exact Bel.rf | (with_reducible refine Bel.drwN ?_ _) | (with_reducible refine Bel.drw ?_))) hbz; clear hbz))
        clear c1 c2 f1 f2 c3 c4 f3 f4 HKS HOK
        rcases HC3.out with rfl | hc
        · have hq : tm l (pp - k) < tm l k := by rw [HPC.out]; exact HCL.out.1 (by decide)
          have HN : Hid (Sea l a m pp s k) := sea_no HSEA.out HS1.out HS2.out HQ.out.1 HQ.out.2.2 HH3.out hk1 hk2 hq
          clear hq
          go_wp2
          go_roundw
          case rel => exact ⟨s, k, _, rfl, rfl, rfl, HN.out, by first | exact HB.out.tr HBX.out | exact (HB.out.tr HBX.out).drwN _⟩
          case measure => simp [intOf]; omega
        · have hq : tm l k ≤ tm l (pp - k) := by
            rw [HPC.out]
            have : ¬ tm l pc < tm l k := fun x => by have := HCL.out.2 x; omega
            omega
          have HN : Hid (Sea l a m pp (k + 1) r) := sea_yes HSEA.out HS1.out HS2.out HQ.out.1 HQ.out.2.2 HH3.out hk1 hk2 hq
          clear hq
          rcases hc with rfl | rfl
          all_goals
            go_wp2
            go_roundw
            case rel => exact ⟨k + 1, r, _, rfl, by go_num, rfl, HN.out, by first | exact HB.out.tr HBX.out | exact (HB.out.tr HBX.out).drwN _⟩
            case measure => simp [intOf]; omega
      · obtain rfl : s = r := by omega
        obtain ⟨en, hen⟩ : ∃ x, N - s = x := ⟨_, rfl⟩
        have hm := HMID.out
        have hr0 := HR0.out
        have hq := HQ.out
        have eN : (N : Int) - (s : Int) = (en : Int) := by omega
        have g1 : a ≤ s := by omega
        have g2 : s ≤ m := by omega
        have g3 : m ≤ en := by omega
        have g4 : en ≤ b := by omega
        have g5 : en + s = mid + m := by omega
        have g6 : s ≤ mid := by omega
        have g7 : mid ≤ en := by omega
        have F1 : Hid (s < m → m < en → tm l (en - 1) < tm l s) := fun x1 x2 => by
          have := HSEA.out.2.2.2.2 s (Nat.le_refl _) (by omega)
          rwa [show pp - s = en - 1 by omega] at this
        have F2 : Hid (a < s → en < b → tm l (s - 1) ≤ tm l en) := fun x1 x2 => by
          have := HSEA.out.2.2.2.1 (s - 1) (by omega) (by omega)
          rwa [show pp - (s - 1) = en by omega] at this
        have HG := Lib.hid (And.intro g1 (And.intro g2 (And.intro g3 (And.intro g4 (And.intro g5 (And.intro g6 g7))))))
        have HBW : Hid (Ch g w wr) := Ch.of_bel HB.out
        clear HSEA HH3 hm hr0 hq hen
        rcases (show (s < m ∧ m < en) ∨ (¬ s < m) ∨ (s < m ∧ ¬ m < en) by omega) with hcase | hcase | hcase
        · have q_sm : decide ((s : Int) < (m : Int)) = true := decide_eq_true (by omega)
          have n_sm : (s : Int) < (m : Int) := by omega
          have q_men : decide ((m : Int) < (en : Int)) = true := decide_eq_true (by omega)
          have n_men : (m : Int) < (en : Int) := by omega
          go_wp2_with fail
          go_at_call 49
          refine (rotate_ok g c n s m en l _ hn hnc (by omega) (by omega) (by omega) _ (by first | exact HR.out | exact HR.out.bel (Bel.rf.drwN _))).mono ?_
          rintro e w3 ⟨rfl, l1, hr3, hro, hc3⟩
          have HROT := Lib.hid hro
          have HR3 := Lib.hid hr3
          have HC3 := Lib.hid (HBW.out.tr (by first | exact hc3 | exact (Ch.of_bel (Bel.rf.drwN _)).tr hc3))
          clear hr3 hro hc3
          have HSRT := Lib.hid (rot_srt HS1.out HS2.out g1 g2 g3 g4 g5 g6 g7 HROT.out)
          rcases (show (a < s ∧ s < mid) ∨ (¬ a < s) ∨ (a < s ∧ ¬ s < mid) by omega) with hcase | hcase | hcase
          · have q_as : decide ((a : Int) < (s : Int)) = true := decide_eq_true (by omega)
            have n_as : (a : Int) < (s : Int) := by omega
            have q_smid : decide ((s : Int) < (mid : Int)) = true := decide_eq_true (by omega)
            have n_smid : (s : Int) < (mid : Int) := by omega
            go_wp2_with fail
            go_at_call 48
            refine (HIH.out a s mid l1 _ (by omega) (by omega) (by omega) (by omega) HSRT.out.1 HSRT.out.2.1 HR3.out).mono ?_
            rintro e w4 ⟨rfl, l2, hr4, hm4, hs4, hc4⟩
            have HR4 := Lib.hid hr4
            have HM4 := Lib.hid (And.intro hm4 hs4)
            have HC4 := Lib.hid (HC3.out.tr hc4)
            clear hr4 hm4 hs4 hc4
            rcases (show (mid < en ∧ en < b) ∨ (¬ mid < en) ∨ (mid < en ∧ ¬ en < b) by omega) with hcase | hcase | hcase
            · have q_miden : decide ((mid : Int) < (en : Int)) = true := decide_eq_true (by omega)
              have n_miden : (mid : Int) < (en : Int) := by omega
              have q_enb : decide ((en : Int) < (b : Int)) = true := decide_eq_true (by omega)
              have n_enb : (en : Int) < (b : Int) := by omega
              go_wp2_with fail
              go_at_call 48
              refine (HIH.out mid en b l2 _ (by omega) (by omega) (by omega) (by omega) (HM4.out.1.srt HSRT.out.2.2.1 (by omega)) (HM4.out.1.srt HSRT.out.2.2.2 (by omega)) HR4.out).mono ?_
              rintro e w5 ⟨rfl, l3, hr5, hm5, hs5, hc5⟩
              have HR5 := Lib.hid hr5
              have HM5 := Lib.hid (And.intro hm5 hs5)
              have HC5 := Lib.hid (HC4.out.tr hc5)
              clear hr5 hm5 hs5 hc5
              go_wp2
              go_end0
              have FN := sym_done ham hmb (by rw [hl]; exact hbn) HS1.out HS2.out HG.out.1 HG.out.2.1 HG.out.2.2.1 HG.out.2.2.2.1 HG.out.2.2.2.2.1 HG.out.2.2.2.2.2.1 HG.out.2.2.2.2.2.2 F1.out F2.out HROT.out (.inl HM4.out) (.inl HM5.out)
              exact ⟨rfl, _, HR5.out, FN.1, FN.2, HC5.out⟩
            · have q_miden : decide ((mid : Int) < (en : Int)) = false := decide_eq_false (by omega)
              have n_miden : ¬ (mid : Int) < (en : Int) := by omega
              go_wp2
              go_end0
              have FN := sym_done ham hmb (by rw [hl]; exact hbn) HS1.out HS2.out HG.out.1 HG.out.2.1 HG.out.2.2.1 HG.out.2.2.2.1 HG.out.2.2.2.2.1 HG.out.2.2.2.2.2.1 HG.out.2.2.2.2.2.2 F1.out F2.out HROT.out (.inl HM4.out) (.inr ⟨rfl, by omega⟩)
              exact ⟨rfl, _, HR4.out, FN.1, FN.2, HC4.out⟩
            · have q_miden : decide ((mid : Int) < (en : Int)) = true := decide_eq_true (by omega)
              have n_miden : (mid : Int) < (en : Int) := by omega
              have q_enb : decide ((en : Int) < (b : Int)) = false := decide_eq_false (by omega)
              have n_enb : ¬ (en : Int) < (b : Int) := by omega
              go_wp2
              go_end0
              have FN := sym_done ham hmb (by rw [hl]; exact hbn) HS1.out HS2.out HG.out.1 HG.out.2.1 HG.out.2.2.1 HG.out.2.2.2.1 HG.out.2.2.2.2.1 HG.out.2.2.2.2.2.1 HG.out.2.2.2.2.2.2 F1.out F2.out HROT.out (.inl HM4.out) (.inr ⟨rfl, by omega⟩)
              exact ⟨rfl, _, HR4.out, FN.1, FN.2, HC4.out⟩
          · have q_as : decide ((a : Int) < (s : Int)) = false := decide_eq_false (by omega)
            have n_as : ¬ (a : Int) < (s : Int) := by omega
            rcases (show (mid < en ∧ en < b) ∨ (¬ mid < en) ∨ (mid < en ∧ ¬ en < b) by omega) with hcase | hcase | hcase
            · have q_miden : decide ((mid : Int) < (en : Int)) = true := decide_eq_true (by omega)
              have n_miden : (mid : Int) < (en : Int) := by omega
              have q_enb : decide ((en : Int) < (b : Int)) = true := decide_eq_true (by omega)
              have n_enb : (en : Int) < (b : Int) := by omega
              go_wp2_with fail
              go_at_call 48
              refine (HIH.out mid en b l1 _ (by omega) (by omega) (by omega) (by omega) HSRT.out.2.2.1 HSRT.out.2.2.2 HR3.out).mono ?_
              rintro e w5 ⟨rfl, l3, hr5, hm5, hs5, hc5⟩
              have HR5 := Lib.hid hr5
              have HM5 := Lib.hid (And.intro hm5 hs5)
              have HC5 := Lib.hid (HC3.out.tr hc5)
              clear hr5 hm5 hs5 hc5
              go_wp2
              go_end0
              have FN := sym_done ham hmb (by rw [hl]; exact hbn) HS1.out HS2.out HG.out.1 HG.out.2.1 HG.out.2.2.1 HG.out.2.2.2.1 HG.out.2.2.2.2.1 HG.out.2.2.2.2.2.1 HG.out.2.2.2.2.2.2 F1.out F2.out HROT.out (.inr ⟨rfl, by omega⟩) (.inl HM5.out)
              exact ⟨rfl, _, HR5.out, FN.1, FN.2, HC5.out⟩
            · have q_miden : decide ((mid : Int) < (en : Int)) = false := decide_eq_false (by omega)
              have n_miden : ¬ (mid : Int) < (en : Int) := by omega
              go_wp2
              go_end0
              have FN := sym_done ham hmb (by rw [hl]; exact hbn) HS1.out HS2.out HG.out.1 HG.out.2.1 HG.out.2.2.1 HG.out.2.2.2.1 HG.out.2.2.2.2.1 HG.out.2.2.2.2.2.1 HG.out.2.2.2.2.2.2 F1.out F2.out HROT.out (.inr ⟨rfl, by omega⟩) (.inr ⟨rfl, by omega⟩)
              exact ⟨rfl, _, HR3.out, FN.1, FN.2, HC3.out⟩
            · have q_miden : decide ((mid : Int) < (en : Int)) = true := decide_eq_true (by omega)
              have n_miden : (mid : Int) < (en : Int) := by omega
              have q_enb : decide ((en : Int) < (b : Int)) = false := decide_eq_false (by omega)
              have n_enb : ¬ (en : Int) < (b : Int) := by omega
              go_wp2
              go_end0
              have FN := sym_done ham hmb (by rw [hl]; exact hbn) HS1.out HS2.out HG.out.1 HG.out.2.1 HG.out.2.2.1 HG.out.2.2.2.1 HG.out.2.2.2.2.1 HG.out.2.2.2.2.2.1 HG.out.2.2.2.2.2.2 F1.out F2.out HROT.out (.inr ⟨rfl, by omega⟩) (.inr ⟨rfl, by omega⟩)
              exact ⟨rfl, _, HR3.out, FN.1, FN.2, HC3.out⟩
          · have q_as : decide ((a : Int) < (s : Int)) = true := decide_eq_true (by omega)
            have n_as : (a : Int) < (s : Int) := by omega
            have q_smid : decide ((s : Int) < (mid : Int)) = false := decide_eq_false (by omega)
            have n_smid : ¬ (s : Int) < (mid : Int) := by omega
            rcases (show (mid < en ∧ en < b) ∨ (¬ mid < en) ∨ (mid < en ∧ ¬ en < b) by omega) with hcase | hcase | hcase
            · have q_miden : decide ((mid : Int) < (en : Int)) = true := decide_eq_true (by omega)
              have n_miden : (mid : Int) < (en : Int) := by omega
              have q_enb : decide ((en : Int) < (b : Int)) = true := decide_eq_true (by omega)
              have n_enb : (en : Int) < (b : Int) := by omega
              go_wp2_with fail
              go_at_call 48
              refine (HIH.out mid en b l1 _ (by omega) (by omega) (by omega) (by omega) HSRT.out.2.2.1 HSRT.out.2.2.2 HR3.out).mono ?_
              rintro e w5 ⟨rfl, l3, hr5, hm5, hs5, hc5⟩
              have HR5 := Lib.hid hr5
              have HM5 := Lib.hid (And.intro hm5 hs5)
              have HC5 := Lib.hid (HC3.out.tr hc5)
              clear hr5 hm5 hs5 hc5
              go_wp2
              go_end0
              have FN := sym_done ham hmb (by rw [hl]; exact hbn) HS1.out HS2.out HG.out.1 HG.out.2.1 HG.out.2.2.1 HG.out.2.2.2.1 HG.out.2.2.2.2.1 HG.out.2.2.2.2.2.1 HG.out.2.2.2.2.2.2 F1.out F2.out HROT.out (.inr ⟨rfl, by omega⟩) (.inl HM5.out)
              exact ⟨rfl, _, HR5.out, FN.1, FN.2, HC5.out⟩
            · have q_miden : decide ((mid : Int) < (en : Int)) = false := decide_eq_false (by omega)
              have n_miden : ¬ (mid : Int) < (en : Int) := by omega
              go_wp2
              go_end0
              have FN := sym_done ham hmb (by rw [hl]; exact hbn) HS1.out HS2.out HG.out.1 HG.out.2.1 HG.out.2.2.1 HG.out.2.2.2.1 HG.out.2.2.2.2.1 HG.out.2.2.2.2.2.1 HG.out.2.2.2.2.2.2 F1.out F2.out HROT.out (.inr ⟨rfl, by omega⟩) (.inr ⟨rfl, by omega⟩)
              exact ⟨rfl, _, HR3.out, FN.1, FN.2, HC3.out⟩
            · have q_miden : decide ((mid : Int) < (en : Int)) = true := decide_eq_true (by omega)
              have n_miden : (mid : Int) < (en : Int) := by omega
              have q_enb : decide ((en : Int) < (b : Int)) = false := decide_eq_false (by omega)
              have n_enb : ¬ (en : Int) < (b : Int) := by omega
              go_wp2
              go_end0
              have FN := sym_done ham hmb (by rw [hl]; exact hbn) HS1.out HS2.out HG.out.1 HG.out.2.1 HG.out.2.2.1 HG.out.2.2.2.1 HG.out.2.2.2.2.1 HG.out.2.2.2.2.2.1 HG.out.2.2.2.2.2.2 F1.out F2.out HROT.out (.inr ⟨rfl, by omega⟩) (.inr ⟨rfl, by omega⟩)
              exact ⟨rfl, _, HR3.out, FN.1, FN.2, HC3.out⟩
        · have q_sm : decide ((s : Int) < (m : Int)) = false := decide_eq_false (by omega)
          have n_sm : ¬ (s : Int) < (m : Int) := by omega
          have HROT : Hid (Rot l l s m en) := rot_id (.inl (by omega)) g2 g3
          have HSRT := Lib.hid (rot_srt HS1.out HS2.out g1 g2 g3 g4 g5 g6 g7 HROT.out)
          rcases (show (a < s ∧ s < mid) ∨ (a < s ∧ ¬ s < mid) by omega) with hcase | hcase
          · have q_as : decide ((a : Int) < (s : Int)) = true := decide_eq_true (by omega)
            have n_as : (a : Int) < (s : Int) := by omega
            have q_smid : decide ((s : Int) < (mid : Int)) = true := decide_eq_true (by omega)
            have n_smid : (s : Int) < (mid : Int) := by omega
            go_wp2_with fail
            go_at_call 48
            refine (HIH.out a s mid l _ (by omega) (by omega) (by omega) (by omega) HSRT.out.1 HSRT.out.2.1 HR.out).mono ?_
            rintro e w4 ⟨rfl, l2, hr4, hm4, hs4, hc4⟩
            have HR4 := Lib.hid hr4
            have HM4 := Lib.hid (And.intro hm4 hs4)
            have HC4 := Lib.hid (HBW.out.tr hc4)
            clear hr4 hm4 hs4 hc4
            have hcase : ¬ mid < en := by omega
            have q_miden : decide ((mid : Int) < (en : Int)) = false := decide_eq_false (by omega)
            have n_miden : ¬ (mid : Int) < (en : Int) := by omega
            go_wp2
            go_end0
            have FN := sym_done ham hmb (by rw [hl]; exact hbn) HS1.out HS2.out HG.out.1 HG.out.2.1 HG.out.2.2.1 HG.out.2.2.2.1 HG.out.2.2.2.2.1 HG.out.2.2.2.2.2.1 HG.out.2.2.2.2.2.2 F1.out F2.out HROT.out (.inl HM4.out) (.inr ⟨rfl, by omega⟩)
            exact ⟨rfl, _, HR4.out, FN.1, FN.2, HC4.out⟩
          · have q_as : decide ((a : Int) < (s : Int)) = true := decide_eq_true (by omega)
            have n_as : (a : Int) < (s : Int) := by omega
            have q_smid : decide ((s : Int) < (mid : Int)) = false := decide_eq_false (by omega)
            have n_smid : ¬ (s : Int) < (mid : Int) := by omega
            have hcase : ¬ mid < en := by omega
            have q_miden : decide ((mid : Int) < (en : Int)) = false := decide_eq_false (by omega)
            have n_miden : ¬ (mid : Int) < (en : Int) := by omega
            go_wp2
            go_end0
            have FN := sym_done ham hmb (by rw [hl]; exact hbn) HS1.out HS2.out HG.out.1 HG.out.2.1 HG.out.2.2.1 HG.out.2.2.2.1 HG.out.2.2.2.2.1 HG.out.2.2.2.2.2.1 HG.out.2.2.2.2.2.2 F1.out F2.out HROT.out (.inr ⟨rfl, by omega⟩) (.inr ⟨rfl, by omega⟩)
            exact ⟨rfl, _, HR.out, FN.1, FN.2, HBW.out⟩
        · have q_sm : decide ((s : Int) < (m : Int)) = true := decide_eq_true (by omega)
          have n_sm : (s : Int) < (m : Int) := by omega
          have q_men : decide ((m : Int) < (en : Int)) = false := decide_eq_false (by omega)
          have n_men : ¬ (m : Int) < (en : Int) := by omega
          have HROT : Hid (Rot l l s m en) := rot_id (.inr (by omega)) g2 g3
          have HSRT := Lib.hid (rot_srt HS1.out HS2.out g1 g2 g3 g4 g5 g6 g7 HROT.out)
          rcases (show (¬ a < s) ∨ (a < s ∧ ¬ s < mid) by omega) with hcase | hcase
          · have q_as : decide ((a : Int) < (s : Int)) = false := decide_eq_false (by omega)
            have n_as : ¬ (a : Int) < (s : Int) := by omega
            have hcase : mid < en ∧ en < b := by omega
            have q_miden : decide ((mid : Int) < (en : Int)) = true := decide_eq_true (by omega)
            have n_miden : (mid : Int) < (en : Int) := by omega
            have q_enb : decide ((en : Int) < (b : Int)) = true := decide_eq_true (by omega)
            have n_enb : (en : Int) < (b : Int) := by omega
            go_wp2_with fail
            go_at_call 48
            refine (HIH.out mid en b l _ (by omega) (by omega) (by omega) (by omega) HSRT.out.2.2.1 HSRT.out.2.2.2 HR.out).mono ?_
            rintro e w5 ⟨rfl, l3, hr5, hm5, hs5, hc5⟩
            have HR5 := Lib.hid hr5
            have HM5 := Lib.hid (And.intro hm5 hs5)
            have HC5 := Lib.hid (HBW.out.tr hc5)
            clear hr5 hm5 hs5 hc5
            go_wp2
            go_end0
            have FN := sym_done ham hmb (by rw [hl]; exact hbn) HS1.out HS2.out HG.out.1 HG.out.2.1 HG.out.2.2.1 HG.out.2.2.2.1 HG.out.2.2.2.2.1 HG.out.2.2.2.2.2.1 HG.out.2.2.2.2.2.2 F1.out F2.out HROT.out (.inr ⟨rfl, by omega⟩) (.inl HM5.out)
            exact ⟨rfl, _, HR5.out, FN.1, FN.2, HC5.out⟩
          · have q_as : decide ((a : Int) < (s : Int)) = true := decide_eq_true (by omega)
            have n_as : (a : Int) < (s : Int) := by omega
            have q_smid : decide ((s : Int) < (mid : Int)) = false := decide_eq_false (by omega)
            have n_smid : ¬ (s : Int) < (mid : Int) := by omega
            have hcase : mid < en ∧ en < b := by omega
            have q_miden : decide ((mid : Int) < (en : Int)) = true := decide_eq_true (by omega)
            have n_miden : (mid : Int) < (en : Int) := by omega
            have q_enb : decide ((en : Int) < (b : Int)) = true := decide_eq_true (by omega)
            have n_enb : (en : Int) < (b : Int) := by omega
            go_wp2_with fail
            go_at_call 48
            refine (HIH.out mid en b l _ (by omega) (by omega) (by omega) (by omega) HSRT.out.2.2.1 HSRT.out.2.2.2 HR.out).mono ?_
            rintro e w5 ⟨rfl, l3, hr5, hm5, hs5, hc5⟩
            have HR5 := Lib.hid hr5
            have HM5 := Lib.hid (And.intro hm5 hs5)
            have HC5 := Lib.hid (HBW.out.tr hc5)
            clear hr5 hm5 hs5 hc5
            go_wp2
            go_end0
            have FN := sym_done ham hmb (by rw [hl]; exact hbn) HS1.out HS2.out HG.out.1 HG.out.2.1 HG.out.2.2.1 HG.out.2.2.2.1 HG.out.2.2.2.2.1 HG.out.2.2.2.2.2.1 HG.out.2.2.2.2.2.2 F1.out F2.out HROT.out (.inr ⟨rfl, by omega⟩) (.inl HM5.out)
            exact ⟨rfl, _, HR5.out, FN.1, FN.2, HC5.out⟩
end Go.Proofs.Ytgcjangnlbhicaa.St
