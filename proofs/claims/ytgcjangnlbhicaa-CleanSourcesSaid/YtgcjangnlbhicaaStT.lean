/- slices.stableCmpFunc, SortStableFunc over readings, by time. -/
import Derived.Test.YtgcjangnlbhicaaStS
namespace Go.Proofs.Ytgcjangnlbhicaa.St
open Go.ChangeShapes Go.WideShapes Go.RowKit Wo Sr Wi Rm Rg
set_option linter.unusedVariables false
set_option maxHeartbeats 16000000 in
set_option maxRecDepth 100000 in
theorem stable_ok (g c n : Nat) (l : List Rp) (hn : n ≤ 100000) (hnc : n ≤ c) (w : World) (h : Rw w g n l) :
    Calls Try.prog 44 #[.slice (some ⟨g, 0, none⟩) n c, .int .i64 (n : Int), ord] w (SomeSort g n 0 n l w) := by
  have H0 := Lib.hid h
  have ni : (n : Int) ≤ 100000 := by omega
  have HINS : Hid (∀ (a b : Nat) (l : List Rp) (w : World), a ≤ b → b ≤ n → Rw w g n l → Calls Try.prog 47 #[.slice (some ⟨g, 0, none⟩) n c, .int .i64 (a : Int), .int .i64 (b : Int), .func (.func 39) #[] #[]] w (SomeSort g n a b l w)) := fun a b l w h1 h2 h3 => insertion_ok g c n a b l hn hnc h1 h2 w h3
  have HSYM : Hid (∀ (a m b : Nat) (l : List Rp) (w : World), a < m → m < b → b ≤ n → Srt l a m → Srt l m b → Rw w g n l → Calls Try.prog 48 #[.slice (some ⟨g, 0, none⟩) n c, .int .i64 (a : Int), .int .i64 (m : Int), .int .i64 (b : Int), .func (.func 39) #[] #[]] w (SomeSort g n a b l w)) := fun a m b l w h1 h2 h3 h4 h5 h6 => sym_any g c n hn hnc (b - a) a m b l w (Nat.le_refl _) h1 h2 h3 h4 h5 h6
  unfold ord
  clear h
  go_enter Try.func44, Try.ntmps44
  go_wp2
  go_loopw [7, 8] (fun s7 s8 wr => ∃ (a b : Nat) (V : World) (l1 : List Rp), V = wr ∧ b = a + 20 ∧ a ≤ n ∧ 20 ∣ a ∧ s7 = .int .i64 (a : Int) ∧ s8 = .int .i64 (b : Int) ∧ Rw wr g n l1 ∧ Mv l l1 0 n ∧ Blk l1 20 a ∧ Ch g w wr) (fun s7 _ _ => n + 1 - (intOf s7).toNat)
  case atStart => exact ⟨0, 20, _, l, rfl, rfl, by omega, ⟨0, rfl⟩, rfl, rfl, by first | exact H0.out | exact H0.out.bel (Bel.rf.drwN _), Rm.Mv.rf _ _ _, blk0 _ _, by first | exact Ch.rf | exact (Ch.rf).drwN _⟩
  case round =>
    obtain ⟨a, b, wr, l1, hwr, hb, han, hda, rfl, rfl, hr, hm, hbl, hc⟩ := hrel
    subst hwr
    have HR := Lib.hid hr
    have HM := Lib.hid hm
    have HB := Lib.hid (And.intro hbl hda)
    have HC := Lib.hid hc
    have HBE := Lib.hid hb
    have bin : b ≤ 100020 := by omega
    have ain : a < b := by omega
    clear hr hm hbl hc hda hb
    rcases Nat.lt_or_ge n b with hgt | hle
    · have tb : ¬ (b : Int) ≤ (n : Int) := by omega
      have tb' : decide ((b : Int) ≤ (n : Int)) = false := decide_eq_false tb
      go_wp2_with fail
      go_at_call 47
      refine (HINS.out a n l1 _ (by omega) (by omega) (by first | exact HR.out | exact HR.out.bel (Bel.rf.drwN _))).mono ?_
      rintro e w2 ⟨rfl, l2, hr2, hm2, hs2, hc2⟩
      have HR2 := Lib.hid hr2
      have HM2 : Hid (Mv l l2 0 n) := HM.out.tr hm2 (by omega) (by omega)
      have HB2 : Hid (Blk l2 20 n) := blk_ext HB.out.2 HB.out.1 hm2 (by have := HBE.out; omega) hs2
      have HC2 : Hid (Ch g w w2) := HC.out.tr (by first | exact hc2 | exact (Ch.of_bel (Bel.rf.drwN _)).tr hc2)
      clear hr2 hm2 hs2 hc2 HB HC HM HR tb tb' hgt HBE bin ain
      go_wp2
      go_loopw [6] (fun s6 wr => ∃ (s : Nat) (V : World) (l1 : List Rp), V = wr ∧ 0 < s ∧ s ≤ 2 * n + 20 ∧ s6 = .int .i64 (s : Int) ∧ Rw wr g n l1 ∧ Mv l l1 0 n ∧ Blk l1 s n ∧ Ch g w wr) (fun s6 _ => n - (intOf s6).toNat)
      case atStart => exact ⟨20, _, l2, rfl, by omega, by omega, rfl, by first | exact HR2.out | exact HR2.out.bel (Bel.rf.drwN _), HM2.out, HB2.out, by first | exact HC2.out | exact HC2.out.drwN _⟩
      case round =>
        obtain ⟨s, wr, l3, hwr, hs0, hs1, rfl, hr, hm, hbl, hc⟩ := hrel
        subst hwr
        have HR3 := Lib.hid hr
        have HM3 := Lib.hid hm
        have HB3 := Lib.hid hbl
        have HC3 := Lib.hid hc
        clear hr hm hbl hc
        rcases Nat.lt_or_ge s n with hsn | hsn
        · have ts : (s : Int) < (n : Int) := by omega
          obtain ⟨u, hu⟩ : ∃ u, 2 * s = u := ⟨_, rfl⟩
          have ui : 2 * (s : Int) = (u : Int) := by omega
          have HU : Hid (2 * s = u) := hu
          have u1 : s < u := by omega
          have u2 : u ≤ 200000 := by omega
          clear hu
          go_wp2
          go_loopw [7, 8] (fun s7 s8 wq => ∃ (a b : Nat) (V : World) (l1 : List Rp), V = wq ∧ b = a + u ∧ a ≤ n ∧ u ∣ a ∧ s7 = .int .i64 (a : Int) ∧ s8 = .int .i64 (b : Int) ∧ Rw wq g n l1 ∧ Mv l l1 0 n ∧ Blk l1 s n ∧ Blk l1 u a ∧ Ch g w wq) (fun s7 _ _ => n + 1 - (intOf s7).toNat)
          case atStart => exact ⟨0, u, _, l3, rfl, by omega, by omega, ⟨0, by omega⟩, rfl, by go_num, by first | exact HR3.out | exact HR3.out.bel (Bel.rf.drwN _), HM3.out, HB3.out, blk0 _ _, by first | exact HC3.out | exact HC3.out.drwN _⟩
          case round =>
            obtain ⟨a, b, wq, l4, hwq, hb, han, hda, rfl, rfl, hr, hm, hbs, hbl, hc⟩ := hrel
            subst hwq
            have HR4 := Lib.hid hr
            have HM4 := Lib.hid hm
            have HB4 := Lib.hid (And.intro hbl (And.intro hda hbs))
            have HC4 := Lib.hid hc
            have HBE := Lib.hid hb
            have bin : b ≤ 300000 := by omega
            have ain : a < b := by omega
            clear hr hm hbl hc hda hbs hb
            obtain ⟨m, hma⟩ : ∃ m, a + s = m := ⟨_, rfl⟩
            have mi : (a : Int) + (s : Int) = (m : Int) := by omega
            have HMA : Hid (a + s = m) := hma
            have HSA : Hid (s ∣ a) := dvd_two (by rw [HU.out]; exact HB4.out.2.1)
            have HSM : Hid (s ∣ m) := by show _ ∣ _; rw [← hma]; exact dvd_next HSA.out
            have am : a < m := by omega
            have mb : Hid (m + s = b) := by have := HU.out; have := HBE.out; show _ = _; omega
            have HSB : Hid (s ∣ b) := by show _ ∣ _; rw [← mb.out]; exact dvd_next HSM.out
            clear hma
            rcases Nat.lt_or_ge n b with hgt | hle
            · have tb : ¬ (b : Int) ≤ (n : Int) := by omega
              have tb' : decide ((b : Int) ≤ (n : Int)) = false := decide_eq_false tb
              rcases Nat.lt_or_ge m n with hmn | hmn
              · have tm' : (m : Int) < (n : Int) := by omega
                go_wp2_with fail
                go_at_call 48
                refine (HSYM.out a m n l4 _ am hmn (by have := mb.out; omega) (HB4.out.2.2 a m HSA.out (by have := HMA.out; omega) (by omega)) (HB4.out.2.2 m n HSM.out (by have := mb.out; omega) (by omega)) (by first | exact HR4.out | exact HR4.out.bel (Bel.rf.drwN _))).mono ?_
                rintro e w5 ⟨rfl, l5, hr5, hm5, hs5, hc5⟩
                have HR5 := Lib.hid hr5
                have HM5 : Hid (Mv l l5 0 n) := HM4.out.tr hm5 (by omega) (by omega)
                have HB5 : Hid (Blk l5 u n) := blk_ext HB4.out.2.1 HB4.out.1 hm5 (by have := HBE.out; omega) hs5
                have HC5 : Hid (Ch g w w5) := HC4.out.tr (by first | exact hc5 | exact (Ch.of_bel (Bel.rf.drwN _)).tr hc5)
                clear hr5 hm5 hs5 hc5
                go_wp2
                go_roundw
                case rel => exact ⟨u, _, l5, rfl, by omega, by omega, by go_num, by first | exact HR5.out | exact HR5.out.bel (Bel.rf.drwN _), HM5.out, HB5.out, by first | exact HC5.out | exact HC5.out.drwN _⟩
                case measure => simp [intOf]; omega
              · have tm' : ¬ (m : Int) < (n : Int) := by omega
                have HB5 : Hid (Blk l4 u n) := blk_ext HB4.out.2.1 HB4.out.1 (Rm.Mv.rf _ _ _) (by have := HBE.out; omega) (HB4.out.2.2 a n HSA.out (by have := HMA.out; omega) (by omega))
                go_wp2
                go_roundw
                case rel => exact ⟨u, _, l4, rfl, by omega, by omega, by go_num, by first | exact HR4.out | exact HR4.out.bel (Bel.rf.drwN _), HM4.out, HB5.out, by first | exact HC4.out | exact HC4.out.drwN _⟩
                case measure => simp [intOf]; omega
            · have tb : (b : Int) ≤ (n : Int) := by omega
              have tb' : decide ((b : Int) ≤ (n : Int)) = true := decide_eq_true tb
              go_wp2_with fail
              go_at_call 48
              refine (HSYM.out a m b l4 _ am (by have := mb.out; omega) (by omega) (HB4.out.2.2 a m HSA.out (by have := HMA.out; omega) (by have := mb.out; omega)) (HB4.out.2.2 m b HSM.out (by have := mb.out; omega) (by omega)) (by first | exact HR4.out | exact HR4.out.bel (Bel.rf.drwN _))).mono ?_
              rintro e w5 ⟨rfl, l5, hr5, hm5, hs5, hc5⟩
              have HR5 := Lib.hid hr5
              have HM5 : Hid (Mv l l5 0 n) := HM4.out.tr hm5 (by omega) (by omega)
              have HB5 : Hid (Blk l5 u b) := blk_ext HB4.out.2.1 HB4.out.1 hm5 (by have := HBE.out; omega) hs5
              have HB6 : Hid (Blk l5 s n) := blk_keep HSA.out HSB.out HB4.out.2.2 hm5 hs5
              have HD5 : Hid (u ∣ b) := by show _ ∣ _; rw [HBE.out]; exact dvd_next HB4.out.2.1
              have HC5 : Hid (Ch g w w5) := HC4.out.tr (by first | exact hc5 | exact (Ch.of_bel (Bel.rf.drwN _)).tr hc5)
              clear hr5 hm5 hs5 hc5
              go_wp2
              go_roundw
              case rel => exact ⟨b, b + u, _, l5, rfl, rfl, by omega, HD5.out, rfl, by go_num, by first | exact HR5.out | exact HR5.out.bel (Bel.rf.drwN _), HM5.out, HB6.out, HB5.out, by first | exact HC5.out | exact HC5.out.drwN _⟩
              case measure => simp [intOf]; omega
        · have ts : ¬ (s : Int) < (n : Int) := by omega
          have HFIN : Hid (Srt l3 0 n) := HB3.out 0 n ⟨0, by omega⟩ (by omega) (by omega)
          go_wp2
          go_end0
          exact ⟨rfl, l3, by first | exact HR3.out | exact HR3.out.bel (Bel.rf.drwN _), HM3.out, HFIN.out, by first | exact HC3.out | exact HC3.out.drwN _⟩
    · have tb : (b : Int) ≤ (n : Int) := by omega
      have tb' : decide ((b : Int) ≤ (n : Int)) = true := decide_eq_true tb
      go_wp2_with fail
      go_at_call 47
      refine (HINS.out a b l1 _ (by omega) (by omega) (by first | exact HR.out | exact HR.out.bel (Bel.rf.drwN _))).mono ?_
      rintro e w2 ⟨rfl, l2, hr2, hm2, hs2, hc2⟩
      have HR2 := Lib.hid hr2
      have HM2 : Hid (Mv l l2 0 n) := HM.out.tr hm2 (by omega) (by omega)
      have HB2 : Hid (Blk l2 20 b) := blk_ext HB.out.2 HB.out.1 hm2 (by have := HBE.out; omega) hs2
      have HD2 : Hid (20 ∣ b) := by show _ ∣ _; rw [HBE.out]; exact dvd_next HB.out.2
      have HC2 : Hid (Ch g w w2) := HC.out.tr (by first | exact hc2 | exact (Ch.of_bel (Bel.rf.drwN _)).tr hc2)
      clear hr2 hm2 hs2 hc2
      go_wp2
      go_roundw
      case rel => exact ⟨b, b + 20, _, l2, rfl, rfl, by omega, HD2.out, rfl, by go_num, by first | exact HR2.out | exact HR2.out.bel (Bel.rf.drwN _), HM2.out, HB2.out, by first | exact HC2.out | exact HC2.out.drwN _⟩
      case measure => simp [intOf]; omega
set_option maxHeartbeats 8000000 in
theorem sort_ok (g c n : Nat) (l : List Rp) (hn : n ≤ 100000) (hnc : n ≤ c) (w : World) (h : Rw w g n l) :
    Calls Try.prog 38 #[.slice (some ⟨g, 0, none⟩) n c, ord] w (SomeSort g n 0 n l w) := by
  have H0 := Lib.hid h
  have ni : (n : Int) ≤ 100000 := by omega
  have HST : Hid (∀ (w : World), Rw w g n l → Calls Try.prog 44 #[.slice (some ⟨g, 0, none⟩) n c, .int .i64 (n : Int), .func (.func 39) #[] #[]] w (SomeSort g n 0 n l w)) := fun w h => stable_ok g c n l hn hnc w h
  unfold ord
  clear h
  go_enter Try.func38, Try.ntmps38
  go_wp2_with fail
  go_at_call 44
  refine (HST.out _ (by first | exact H0.out | exact H0.out.bel (Bel.rf.drwN _))).mono ?_
  rintro e w2 ⟨rfl, l2, hr2, hm2, hs2, hc2⟩
  have HR2 := Lib.hid hr2
  have HM2 := Lib.hid (And.intro hm2 hs2)
  have HC2 : Hid (Ch g w w2) := by first | exact hc2 | exact (Ch.of_bel (Bel.rf.drwN _)).tr hc2
  clear hr2 hm2 hs2 hc2
  go_wp2
  go_end0
  exact ⟨rfl, l2, by first | exact HR2.out | exact HR2.out.bel (Bel.rf.drwN _), HM2.out.1, HM2.out.2, by first | exact HC2.out | exact HC2.out.drwN _⟩
end Go.Proofs.Ytgcjangnlbhicaa.St
