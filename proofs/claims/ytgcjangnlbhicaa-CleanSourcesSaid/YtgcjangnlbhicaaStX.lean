/- clean.byValue, slices.MinFunc, slices.MaxFunc of readings by value; the least, the greatest. -/
import Derived.Test.YtgcjangnlbhicaaStV
import Derived.Test.YtgcjangnlbhicaaStY0
import Derived.Deep.RegionHeld3
namespace Go.Proofs.Ytgcjangnlbhicaa.St
open Go.ChangeShapes Go.WideShapes Go.RowKit Wo Sr Wi Rm Rg
set_option linter.unusedVariables false
theorem cm_gt (x y : Int) : 0 < cm x y ↔ y < x := by unfold cm; split <;> (try split) <;> omega
theorem byv_ok (t v s u : Int) (w : World) : Calls Try.prog 32 #[.agg #[.int .i64 t, .int .i64 v], .agg #[.int .i64 s, .int .i64 u]] w fun e w' => e = .returned (.int .i64 (cm v u)) ∧ Bel w w' := by
  go_enter Try.func32, Try.ntmps32
  go_wp2_with (go_at_call 40; refine (compare_ok _ _ _).mono ?_; rintro e w' ⟨rfl, rfl⟩)
  go_ret
  exact ⟨rfl, (Bel.rf.al _).al _⟩
set_option maxHeartbeats 8000000 in
set_option maxRecDepth 100000 in
theorem min_ok (ad : Addr) (m c : Nat) (q : List Rp) (w : World) (hz : Zo w (some ad) m q) (hm : 0 < m) (hm2 : m ≤ 100000) :
    Calls Try.prog 31 #[.slice (some ad) m c, .func (.func 32) #[] #[]] w fun e w' => ∃ t : Int, e = .returned (.agg #[.int .i64 t, .int .i64 (lo q)]) ∧ Bel w w' := by
  have H1 := Lib.hid hz
  have hl := hz.1
  have mi : (m : Int) ≤ 100000 := by omega
  have m1 : (1 : Int) ≤ (m : Int) := by omega
  have m0 : ¬ (m : Int) < 1 := by omega
  obtain ⟨g, o, e, hg, hc⟩ := hz.2 hm
  cases e
  obtain ⟨c1, c2⟩ := hc 0 hm
  obtain ⟨x0, hx0⟩ : ∃ y, tm q 0 = y := ⟨_, rfl⟩
  obtain ⟨y0, hy0⟩ : ∃ y, vl q 0 = y := ⟨_, rfl⟩
  rw [hx0] at c1
  rw [hy0] at c2
  simp only [Nat.zero_mul, Nat.add_zero] at c1 c2
  have HX0 := Lib.hid hy0
  have HA : Hid (Bk ((w.alloc (.cells #[.int .i64 0, .int .i64 0] 28)).alloc (.cells #[.int .i64 0, .int .i64 0] 28)) w.heap.size 28 #[.int .i64 0, .int .i64 0]) := (Bk.nw _ _ _).al _
  have HMM : Hid (Bk ((w.alloc (.cells #[.int .i64 0, .int .i64 0] 28)).alloc (.cells #[.int .i64 0, .int .i64 0] 28)) (w.heap.size + 1) 28 #[.int .i64 0, .int .i64 0]) := Bk.nq _ _ _ (by simp)
  clear hz hc hx0 hy0
  go_enter Try.func31, Try.ntmps31
  go_wp2
  go_loopw [6] (fun s6 wr => ∃ (i : Nat) (V : World) (tt vv : Int), V = wr ∧ 1 ≤ i ∧ i ≤ m ∧ s6 = .int .i64 (i : Int) ∧ (∃ j, j < i ∧ vl q j = vv) ∧ (∀ j, j < i → vv ≤ vl q j) ∧ Bk wr w.heap.size 28 #[.int .i64 0, .int .i64 0] ∧ Bk wr (w.heap.size + 1) 28 #[.int .i64 tt, .int .i64 vv] ∧ Bel w wr) (fun s6 _ => m - (intOf s6).toNat)
  case atStart => exact ⟨1, _, x0, y0, rfl, by omega, by omega, rfl, ⟨0, by omega, HX0.out⟩, (fun j hj => by rw [show j = 0 by omega, HX0.out]; exact Int.le_refl _), by first | exact (HA.out.far (by simp) _).far (by simp) _ | exact ((HA.out.far (by simp) _).far (by simp) _).drwN _ | exact HA.out | exact (Bk.nw _ _ _).al _, by first | exact (HMM.out.st 0 _).st 1 _ | exact ((HMM.out.st 0 _).st 1 _).drwN _ | exact Bk.nq _ _ _ (by simp), by first | exact (((Bel.rf.al _).al _).st (by simp) _).st (by simp) _ | exact ((((Bel.rf.al _).al _).st (by simp) _).st (by simp) _).drwN _ | exact (Bel.rf.al _).al _⟩
  case round =>
    obtain ⟨i, wr, tt, vv, hwr, hi1, him, rfl, hex, hall, hka, hkm, hb⟩ := hrel
    subst hwr
    have HE := Lib.hid (And.intro hex hall)
    have HKA := Lib.hid hka
    have HKM := Lib.hid hkm
    have HB := Lib.hid hb
    clear hex hall hka hkm hb
    rcases Nat.lt_or_ge i m with hlt | hge
    · obtain ⟨g', o', e, hg2, hc⟩ := (H1.out.bel HB.out).2 hm
      cases e
      have cj := hc i hlt
      obtain ⟨t1, ht1⟩ : ∃ x, tm q i = x := ⟨_, rfl⟩
      obtain ⟨u1, hu1⟩ : ∃ x, vl q i = x := ⟨_, rfl⟩
      rw [ht1, hu1] at cj
      have HU := Lib.hid hu1
      have k1 : wr.cell? ⟨w.heap.size + 1, 0, none⟩ = some (.int .i64 tt) := HKM.out.cell 0
      have k2 : wr.cell? ⟨w.heap.size + 1, 1, none⟩ = some (.int .i64 vv) := HKM.out.cell 1
      obtain ⟨c1, c2⟩ := cj
      have HKS : Hid (∀ W, Bel wr W → Bel wr W ∧ (W.cell? ⟨g, o + i * 2, none⟩ = some (.int .i64 t1) ∧ W.cell? ⟨g, o + i * 2 + 1, none⟩ = some (.int .i64 u1) ∧ W.cell? ⟨w.heap.size + 1, 0, none⟩ = some (.int .i64 tt) ∧ W.cell? ⟨w.heap.size + 1, 1, none⟩ = some (.int .i64 vv))) := fun W hW => ⟨hW, hW.kp c1, hW.kp c2, hW.kp k1, hW.kp k2⟩
      have HOK : Hid (∀ W, Calls Try.prog 32 #[.agg #[.int .i64 t1, .int .i64 u1], .agg #[.int .i64 tt, .int .i64 vv]] W fun e w' => e = .returned (.int .i64 (cm u1 vv)) ∧ Bel W w') := byv_ok t1 u1 tt vv
      obtain ⟨C, hC⟩ : ∃ x, cm u1 vv = x := ⟨_, rfl⟩
      have hC3 := cm3 u1 vv
      rw [hC] at hC3 HOK
      have HC3 := Lib.hid hC3
      have hCl := cm_lt u1 vv
      rw [hC] at hCl
      have HCL := Lib.hid hCl
      have ti : (i : Int) < (m : Int) := by omega
      have i0 : (0 : Int) ≤ (i : Int) := by omega
      clear hCl hC hC3 ht1 hu1 hc
      go_wp2
      go_region_held3 (fun W => Bel wr W ∧ (W.cell? ⟨g, o + i * 2, none⟩ = some (.int .i64 t1) ∧ W.cell? ⟨g, o + i * 2 + 1, none⟩ = some (.int .i64 u1) ∧ W.cell? ⟨w.heap.size + 1, 0, none⟩ = some (.int .i64 tt) ∧ W.cell? ⟨w.heap.size + 1, 1, none⟩ = some (.int .i64 vv))) ((refine HKS.out _ ?_; repeat (first | exact HBX.out | exact Bel.rf | (with_reducible refine Bel.drwN ?_ _) | (with_reducible refine Bel.drw ?_)))) (first
        | (go_at_call 32; refine (HOK.out _).mono ?_; rintro e wz ⟨rfl, hbz⟩; have HBX : Hid (Bel wr wz) := Bel.tr (by repeat (first | exact Bel.rf | (with_reducible refine Bel.drwN ?_ _) | (with_reducible refine Bel.drw ?_))) hbz; clear hbz))
      obtain ⟨_, d1, d2, d3, d4⟩ := HKS.out wz HBX.out
      have HMZ : Hid (Bk wz (w.heap.size + 1) 28 #[.int .i64 tt, .int .i64 vv]) := HKM.out.bel HBX.out
      have HAZ : Hid (Bk wz w.heap.size 28 #[.int .i64 0, .int .i64 0]) := HKA.out.bel HBX.out
      have z1 := HMZ.out.fr 0
      have z2 := HMZ.out.fr 1
      clear c1 c2 k1 k2 HKS HOK
      rcases HC3.out with rfl | rfl | rfl
      · have hq : u1 < vv := HCL.out.1 (by decide)
        have HN : Hid ((∃ j, j < i + 1 ∧ vl q j = u1) ∧ ∀ j, j < i + 1 → u1 ≤ vl q j) := ⟨⟨i, by omega, HU.out⟩, fun j hj => by
          rcases Nat.lt_or_ge j i with h | h
          · have := HE.out.2 j h; omega
          · rw [show j = i by omega, HU.out]; exact Int.le_refl _⟩
        have HM4 : Hid (Bk ((wz.setCell ⟨w.heap.size + 1, 0, none⟩ (.int .i64 t1)).setCell ⟨w.heap.size + 1, 1, none⟩ (.int .i64 u1)) (w.heap.size + 1) 28 #[.int .i64 t1, .int .i64 u1]) := (HMZ.out.st 0 _).st 1 _
        have HA4 : Hid (Bk ((wz.setCell ⟨w.heap.size + 1, 0, none⟩ (.int .i64 t1)).setCell ⟨w.heap.size + 1, 1, none⟩ (.int .i64 u1)) w.heap.size 28 #[.int .i64 0, .int .i64 0]) := (HAZ.out.far (by simp) _).far (by simp) _
        have HB4 : Hid (Bel w ((wz.setCell ⟨w.heap.size + 1, 0, none⟩ (.int .i64 t1)).setCell ⟨w.heap.size + 1, 1, none⟩ (.int .i64 u1))) := ((HB.out.tr HBX.out).st (by simp) _).st (by simp) _
        clear hq
        go_wp2
        go_roundw
        case rel => exact ⟨i + 1, _, t1, u1, rfl, by omega, by omega, by go_num, HN.out.1, HN.out.2, by first | exact HA4.out | exact HA4.out.drw | exact HA4.out.drwN _, by first | exact HM4.out | exact HM4.out.drw | exact HM4.out.drwN _, by first | exact HB4.out | exact HB4.out.drw | exact HB4.out.drwN _⟩
        case measure => simp [intOf]; omega
      · have hq : ¬ u1 < vv := fun h => absurd (HCL.out.2 h) (by decide)
        have HN : Hid ((∃ j, j < i + 1 ∧ vl q j = vv) ∧ ∀ j, j < i + 1 → vv ≤ vl q j) := ⟨by obtain ⟨j, hj, e⟩ := HE.out.1; exact ⟨j, by omega, e⟩, fun j hj => by
          rcases Nat.lt_or_ge j i with h | h
          · exact HE.out.2 j h
          · rw [show j = i by omega, HU.out]; omega⟩
        have HB4 : Hid (Bel w wz) := HB.out.tr HBX.out
        clear hq
        go_wp2
        go_roundw
        case rel => exact ⟨i + 1, _, tt, vv, rfl, by omega, by omega, by go_num, HN.out.1, HN.out.2, by first | exact HAZ.out | exact HAZ.out.drw | exact HAZ.out.drwN _, by first | exact HMZ.out | exact HMZ.out.drw | exact HMZ.out.drwN _, by first | exact HB4.out | exact HB4.out.drw | exact HB4.out.drwN _⟩
        case measure => simp [intOf]; omega
      · have hq : ¬ u1 < vv := fun h => absurd (HCL.out.2 h) (by decide)
        have HN : Hid ((∃ j, j < i + 1 ∧ vl q j = vv) ∧ ∀ j, j < i + 1 → vv ≤ vl q j) := ⟨by obtain ⟨j, hj, e⟩ := HE.out.1; exact ⟨j, by omega, e⟩, fun j hj => by
          rcases Nat.lt_or_ge j i with h | h
          · exact HE.out.2 j h
          · rw [show j = i by omega, HU.out]; omega⟩
        have HB4 : Hid (Bel w wz) := HB.out.tr HBX.out
        clear hq
        go_wp2
        go_roundw
        case rel => exact ⟨i + 1, _, tt, vv, rfl, by omega, by omega, by go_num, HN.out.1, HN.out.2, by first | exact HAZ.out | exact HAZ.out.drw | exact HAZ.out.drwN _, by first | exact HMZ.out | exact HMZ.out.drw | exact HMZ.out.drwN _, by first | exact HB4.out | exact HB4.out.drw | exact HB4.out.drwN _⟩
        case measure => simp [intOf]; omega
    · obtain rfl : i = m := by omega
      obtain rfl : vv = lo q := lo_one (by rw [hl]; exact HE.out.1) (by rw [hl]; exact HE.out.2)
      have k1 : wr.cell? ⟨w.heap.size + 1, 0, none⟩ = some (.int .i64 tt) := HKM.out.cell 0
      have k2 : wr.cell? ⟨w.heap.size + 1, 1, none⟩ = some (.int .i64 (lo q)) := HKM.out.cell 1
      have a1 : wr.cell? ⟨w.heap.size, 0, none⟩ = some (.int .i64 0) := HKA.out.cell 0
      have a2 : wr.cell? ⟨w.heap.size, 1, none⟩ = some (.int .i64 0) := HKA.out.cell 1
      have z1 := HKA.out.fr 0
      have z2 := HKA.out.fr 1
      have HA5 : Hid (Bk ((wr.setCell ⟨w.heap.size, 0, none⟩ (.int .i64 tt)).setCell ⟨w.heap.size, 1, none⟩ (.int .i64 (lo q))) w.heap.size 28 #[.int .i64 tt, .int .i64 (lo q)]) := (HKA.out.st 0 _).st 1 _
      have r0 : ((wr.setCell ⟨w.heap.size, 0, none⟩ (.int .i64 tt)).setCell ⟨w.heap.size, 1, none⟩ (.int .i64 (lo q))).cell? ⟨w.heap.size, 0, none⟩ = some (.int .i64 tt) := HA5.out.cell 0
      have r1 : ((wr.setCell ⟨w.heap.size, 0, none⟩ (.int .i64 tt)).setCell ⟨w.heap.size, 1, none⟩ (.int .i64 (lo q))).cell? ⟨w.heap.size, 1, none⟩ = some (.int .i64 (lo q)) := HA5.out.cell 1
      go_wp2
      (try simp only [Exit.inBlock, Exit.then])
      refine bodyPost_ret (v := .agg #[.int .i64 tt, .int .i64 (lo q)]) (by simp [results, Try.results31, go_sem, r0, r1]) rfl ⟨tt, rfl, ?_⟩
      first | exact (HB.out.st (by simp) _).st (by simp) _ | exact ((HB.out.st (by simp) _).st (by simp) _).drwN _
set_option maxHeartbeats 8000000 in
set_option maxRecDepth 100000 in
theorem max_ok (ad : Addr) (m c : Nat) (q : List Rp) (w : World) (hz : Zo w (some ad) m q) (hm : 0 < m) (hm2 : m ≤ 100000) :
    Calls Try.prog 34 #[.slice (some ad) m c, .func (.func 32) #[] #[]] w fun e w' => ∃ t : Int, e = .returned (.agg #[.int .i64 t, .int .i64 (hi q)]) ∧ Bel w w' := by
  have H1 := Lib.hid hz
  have hl := hz.1
  have mi : (m : Int) ≤ 100000 := by omega
  have m1 : (1 : Int) ≤ (m : Int) := by omega
  have m0 : ¬ (m : Int) < 1 := by omega
  obtain ⟨g, o, e, hg, hc⟩ := hz.2 hm
  cases e
  obtain ⟨c1, c2⟩ := hc 0 hm
  obtain ⟨x0, hx0⟩ : ∃ y, tm q 0 = y := ⟨_, rfl⟩
  obtain ⟨y0, hy0⟩ : ∃ y, vl q 0 = y := ⟨_, rfl⟩
  rw [hx0] at c1
  rw [hy0] at c2
  simp only [Nat.zero_mul, Nat.add_zero] at c1 c2
  have HX0 := Lib.hid hy0
  have HA : Hid (Bk ((w.alloc (.cells #[.int .i64 0, .int .i64 0] 28)).alloc (.cells #[.int .i64 0, .int .i64 0] 28)) w.heap.size 28 #[.int .i64 0, .int .i64 0]) := (Bk.nw _ _ _).al _
  have HMM : Hid (Bk ((w.alloc (.cells #[.int .i64 0, .int .i64 0] 28)).alloc (.cells #[.int .i64 0, .int .i64 0] 28)) (w.heap.size + 1) 28 #[.int .i64 0, .int .i64 0]) := Bk.nq _ _ _ (by simp)
  clear hz hc hx0 hy0
  go_enter Try.func34, Try.ntmps34
  go_wp2
  go_loopw [6] (fun s6 wr => ∃ (i : Nat) (V : World) (tt vv : Int), V = wr ∧ 1 ≤ i ∧ i ≤ m ∧ s6 = .int .i64 (i : Int) ∧ (∃ j, j < i ∧ vl q j = vv) ∧ (∀ j, j < i → vl q j ≤ vv) ∧ Bk wr w.heap.size 28 #[.int .i64 0, .int .i64 0] ∧ Bk wr (w.heap.size + 1) 28 #[.int .i64 tt, .int .i64 vv] ∧ Bel w wr) (fun s6 _ => m - (intOf s6).toNat)
  case atStart => exact ⟨1, _, x0, y0, rfl, by omega, by omega, rfl, ⟨0, by omega, HX0.out⟩, (fun j hj => by rw [show j = 0 by omega, HX0.out]; exact Int.le_refl _), by first | exact (HA.out.far (by simp) _).far (by simp) _ | exact ((HA.out.far (by simp) _).far (by simp) _).drwN _ | exact HA.out | exact (Bk.nw _ _ _).al _, by first | exact (HMM.out.st 0 _).st 1 _ | exact ((HMM.out.st 0 _).st 1 _).drwN _ | exact Bk.nq _ _ _ (by simp), by first | exact (((Bel.rf.al _).al _).st (by simp) _).st (by simp) _ | exact ((((Bel.rf.al _).al _).st (by simp) _).st (by simp) _).drwN _ | exact (Bel.rf.al _).al _⟩
  case round =>
    obtain ⟨i, wr, tt, vv, hwr, hi1, him, rfl, hex, hall, hka, hkm, hb⟩ := hrel
    subst hwr
    have HE := Lib.hid (And.intro hex hall)
    have HKA := Lib.hid hka
    have HKM := Lib.hid hkm
    have HB := Lib.hid hb
    clear hex hall hka hkm hb
    rcases Nat.lt_or_ge i m with hlt | hge
    · obtain ⟨g', o', e, hg2, hc⟩ := (H1.out.bel HB.out).2 hm
      cases e
      have cj := hc i hlt
      obtain ⟨t1, ht1⟩ : ∃ x, tm q i = x := ⟨_, rfl⟩
      obtain ⟨u1, hu1⟩ : ∃ x, vl q i = x := ⟨_, rfl⟩
      rw [ht1, hu1] at cj
      have HU := Lib.hid hu1
      have k1 : wr.cell? ⟨w.heap.size + 1, 0, none⟩ = some (.int .i64 tt) := HKM.out.cell 0
      have k2 : wr.cell? ⟨w.heap.size + 1, 1, none⟩ = some (.int .i64 vv) := HKM.out.cell 1
      obtain ⟨c1, c2⟩ := cj
      have HKS : Hid (∀ W, Bel wr W → Bel wr W ∧ (W.cell? ⟨g, o + i * 2, none⟩ = some (.int .i64 t1) ∧ W.cell? ⟨g, o + i * 2 + 1, none⟩ = some (.int .i64 u1) ∧ W.cell? ⟨w.heap.size + 1, 0, none⟩ = some (.int .i64 tt) ∧ W.cell? ⟨w.heap.size + 1, 1, none⟩ = some (.int .i64 vv))) := fun W hW => ⟨hW, hW.kp c1, hW.kp c2, hW.kp k1, hW.kp k2⟩
      have HOK : Hid (∀ W, Calls Try.prog 32 #[.agg #[.int .i64 t1, .int .i64 u1], .agg #[.int .i64 tt, .int .i64 vv]] W fun e w' => e = .returned (.int .i64 (cm u1 vv)) ∧ Bel W w') := byv_ok t1 u1 tt vv
      obtain ⟨C, hC⟩ : ∃ x, cm u1 vv = x := ⟨_, rfl⟩
      have hC3 := cm3 u1 vv
      rw [hC] at hC3 HOK
      have HC3 := Lib.hid hC3
      have hCl := cm_gt u1 vv
      rw [hC] at hCl
      have HCL := Lib.hid hCl
      have ti : (i : Int) < (m : Int) := by omega
      have i0 : (0 : Int) ≤ (i : Int) := by omega
      clear hCl hC hC3 ht1 hu1 hc
      go_wp2
      go_region_held3 (fun W => Bel wr W ∧ (W.cell? ⟨g, o + i * 2, none⟩ = some (.int .i64 t1) ∧ W.cell? ⟨g, o + i * 2 + 1, none⟩ = some (.int .i64 u1) ∧ W.cell? ⟨w.heap.size + 1, 0, none⟩ = some (.int .i64 tt) ∧ W.cell? ⟨w.heap.size + 1, 1, none⟩ = some (.int .i64 vv))) ((refine HKS.out _ ?_; repeat (first | exact HBX.out | exact Bel.rf | (with_reducible refine Bel.drwN ?_ _) | (with_reducible refine Bel.drw ?_)))) (first
        | (go_at_call 32; refine (HOK.out _).mono ?_; rintro e wz ⟨rfl, hbz⟩; have HBX : Hid (Bel wr wz) := Bel.tr (by repeat (first | exact Bel.rf | (with_reducible refine Bel.drwN ?_ _) | (with_reducible refine Bel.drw ?_))) hbz; clear hbz))
      obtain ⟨_, d1, d2, d3, d4⟩ := HKS.out wz HBX.out
      have HMZ : Hid (Bk wz (w.heap.size + 1) 28 #[.int .i64 tt, .int .i64 vv]) := HKM.out.bel HBX.out
      have HAZ : Hid (Bk wz w.heap.size 28 #[.int .i64 0, .int .i64 0]) := HKA.out.bel HBX.out
      have z1 := HMZ.out.fr 0
      have z2 := HMZ.out.fr 1
      clear c1 c2 k1 k2 HKS HOK
      rcases HC3.out with rfl | rfl | rfl
      · have hq : ¬ vv < u1 := fun h => absurd (HCL.out.2 h) (by decide)
        have HN : Hid ((∃ j, j < i + 1 ∧ vl q j = vv) ∧ ∀ j, j < i + 1 → vl q j ≤ vv) := ⟨by obtain ⟨j, hj, e⟩ := HE.out.1; exact ⟨j, by omega, e⟩, fun j hj => by
          rcases Nat.lt_or_ge j i with h | h
          · exact HE.out.2 j h
          · rw [show j = i by omega, HU.out]; omega⟩
        have HB4 : Hid (Bel w wz) := HB.out.tr HBX.out
        clear hq
        go_wp2
        go_roundw
        case rel => exact ⟨i + 1, _, tt, vv, rfl, by omega, by omega, by go_num, HN.out.1, HN.out.2, by first | exact HAZ.out | exact HAZ.out.drw | exact HAZ.out.drwN _, by first | exact HMZ.out | exact HMZ.out.drw | exact HMZ.out.drwN _, by first | exact HB4.out | exact HB4.out.drw | exact HB4.out.drwN _⟩
        case measure => simp [intOf]; omega
      · have hq : ¬ vv < u1 := fun h => absurd (HCL.out.2 h) (by decide)
        have HN : Hid ((∃ j, j < i + 1 ∧ vl q j = vv) ∧ ∀ j, j < i + 1 → vl q j ≤ vv) := ⟨by obtain ⟨j, hj, e⟩ := HE.out.1; exact ⟨j, by omega, e⟩, fun j hj => by
          rcases Nat.lt_or_ge j i with h | h
          · exact HE.out.2 j h
          · rw [show j = i by omega, HU.out]; omega⟩
        have HB4 : Hid (Bel w wz) := HB.out.tr HBX.out
        clear hq
        go_wp2
        go_roundw
        case rel => exact ⟨i + 1, _, tt, vv, rfl, by omega, by omega, by go_num, HN.out.1, HN.out.2, by first | exact HAZ.out | exact HAZ.out.drw | exact HAZ.out.drwN _, by first | exact HMZ.out | exact HMZ.out.drw | exact HMZ.out.drwN _, by first | exact HB4.out | exact HB4.out.drw | exact HB4.out.drwN _⟩
        case measure => simp [intOf]; omega
      · have hq : vv < u1 := HCL.out.1 (by decide)
        have HN : Hid ((∃ j, j < i + 1 ∧ vl q j = u1) ∧ ∀ j, j < i + 1 → vl q j ≤ u1) := ⟨⟨i, by omega, HU.out⟩, fun j hj => by
          rcases Nat.lt_or_ge j i with h | h
          · have := HE.out.2 j h; omega
          · rw [show j = i by omega, HU.out]; exact Int.le_refl _⟩
        have HM4 : Hid (Bk ((wz.setCell ⟨w.heap.size + 1, 0, none⟩ (.int .i64 t1)).setCell ⟨w.heap.size + 1, 1, none⟩ (.int .i64 u1)) (w.heap.size + 1) 28 #[.int .i64 t1, .int .i64 u1]) := (HMZ.out.st 0 _).st 1 _
        have HA4 : Hid (Bk ((wz.setCell ⟨w.heap.size + 1, 0, none⟩ (.int .i64 t1)).setCell ⟨w.heap.size + 1, 1, none⟩ (.int .i64 u1)) w.heap.size 28 #[.int .i64 0, .int .i64 0]) := (HAZ.out.far (by simp) _).far (by simp) _
        have HB4 : Hid (Bel w ((wz.setCell ⟨w.heap.size + 1, 0, none⟩ (.int .i64 t1)).setCell ⟨w.heap.size + 1, 1, none⟩ (.int .i64 u1))) := ((HB.out.tr HBX.out).st (by simp) _).st (by simp) _
        clear hq
        go_wp2
        go_roundw
        case rel => exact ⟨i + 1, _, t1, u1, rfl, by omega, by omega, by go_num, HN.out.1, HN.out.2, by first | exact HA4.out | exact HA4.out.drw | exact HA4.out.drwN _, by first | exact HM4.out | exact HM4.out.drw | exact HM4.out.drwN _, by first | exact HB4.out | exact HB4.out.drw | exact HB4.out.drwN _⟩
        case measure => simp [intOf]; omega
    · obtain rfl : i = m := by omega
      obtain rfl : vv = hi q := hi_one (by rw [hl]; exact HE.out.1) (by rw [hl]; exact HE.out.2)
      have k1 : wr.cell? ⟨w.heap.size + 1, 0, none⟩ = some (.int .i64 tt) := HKM.out.cell 0
      have k2 : wr.cell? ⟨w.heap.size + 1, 1, none⟩ = some (.int .i64 (hi q)) := HKM.out.cell 1
      have a1 : wr.cell? ⟨w.heap.size, 0, none⟩ = some (.int .i64 0) := HKA.out.cell 0
      have a2 : wr.cell? ⟨w.heap.size, 1, none⟩ = some (.int .i64 0) := HKA.out.cell 1
      have z1 := HKA.out.fr 0
      have z2 := HKA.out.fr 1
      have HA5 : Hid (Bk ((wr.setCell ⟨w.heap.size, 0, none⟩ (.int .i64 tt)).setCell ⟨w.heap.size, 1, none⟩ (.int .i64 (hi q))) w.heap.size 28 #[.int .i64 tt, .int .i64 (hi q)]) := (HKA.out.st 0 _).st 1 _
      have r0 : ((wr.setCell ⟨w.heap.size, 0, none⟩ (.int .i64 tt)).setCell ⟨w.heap.size, 1, none⟩ (.int .i64 (hi q))).cell? ⟨w.heap.size, 0, none⟩ = some (.int .i64 tt) := HA5.out.cell 0
      have r1 : ((wr.setCell ⟨w.heap.size, 0, none⟩ (.int .i64 tt)).setCell ⟨w.heap.size, 1, none⟩ (.int .i64 (hi q))).cell? ⟨w.heap.size, 1, none⟩ = some (.int .i64 (hi q)) := HA5.out.cell 1
      go_wp2
      (try simp only [Exit.inBlock, Exit.then])
      refine bodyPost_ret (v := .agg #[.int .i64 tt, .int .i64 (hi q)]) (by simp [results, Try.results34, go_sem, r0, r1]) rfl ⟨tt, rfl, ?_⟩
      first | exact (HB.out.st (by simp) _).st (by simp) _ | exact ((HB.out.st (by simp) _).st (by simp) _).drwN _
end Go.Proofs.Ytgcjangnlbhicaa.St
