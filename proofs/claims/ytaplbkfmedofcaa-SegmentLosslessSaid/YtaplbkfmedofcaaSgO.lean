/- segment.samples of any body. -/
import Derived.Test.YtaplbkfmedofcaaSgM
namespace Go.Proofs.Ytaplbkfmedofcaa.Sg
open Go.ChangeShapes Go.WideShapes Go.RowKit Wo Bm By Cd Pk Cr
open Wi (Zi zi_bk)
open Sr (zs zs_at zs_len)
set_option linter.unusedVariables false
theorem meth_d0 (w : World) : (method 233 99 (.agg #[]) "shapesearch/segment.decode").run Try.prog w = .ok (78, .agg #[]) w := by kernel_rfl
theorem meth_d1 (w : World) : (method 233 100 (.agg #[]) "shapesearch/segment.decode").run Try.prog w = .ok (80, .agg #[]) w := by kernel_rfl
theorem meth_d2 (w : World) : (method 233 101 (.agg #[]) "shapesearch/segment.decode").run Try.prog w = .ok (92, .agg #[]) w := by kernel_rfl
def nmA (P : List Nat) (k : Nat) : Array Value := #[.int .i64 (if 0 < k then num P 0 else 0), .int .i64 (if 1 < k then num P 1 else 0), .int .i64 (if 2 < k then num P 2 else 0), .int .i64 (if 3 < k then num P 3 else 0)]
theorem nmA_set {P : List Nat} {k : Nat} (h : k < 4) : (nmA P k).setIfInBounds k (.int .i64 (num P k)) = nmA P (k + 1) := by
  rcases (show k = 0 ∨ k = 1 ∨ k = 2 ∨ k = 3 by omega) with rfl | rfl | rfl | rfl <;> simp [nmA]
def ORl (P : List Nat) (M g : Nat) (w : World) (s6 s20 : Value) (wr : World) : Prop := ∃ (k : Nat) (V : World), V = wr ∧ k ≤ 4 ∧ s20 = .int .i64 (k : Int) ∧ s6 = .int .i64 (ats P k : Int) ∧ ats P k ≤ M ∧ Bk wr g 86 (nmA P k) ∧ Bel w wr
theorem kd_none {Q : List Int → Prop} {w w' : World} (hb : Bel w w') (h : ∀ x, Vx x → Q x → False) : SomeKd Q w (.returned (.tuple #[.slice none 0 0, .bool false])) w' :=
  ⟨none, 0, 0, [], false, rfl, ⟨rfl, fun h => by omega⟩, by omega, by omega, by unfold maxLen; omega, fun _ => rfl, fun ad e => (by cases e), hb, fun x hx hq => (h x hx hq).elim⟩
set_option maxHeartbeats 4000000 in
set_option maxRecDepth 100000 in
theorem smp_ok (ad : Addr) (c M : Nat) (P : List Nat) (h5 : 5 ≤ M) (hM : M ≤ 1000000) (hcc : M < c) (hcm : c ≤ 9223372036854775807) (w : World) (hr : Rd w (some ad) M P) :
    Calls Try.prog 33 #[.slice (some ad) M c] w (SomeKd (fun x => P = bod x) w) := by
  have KK : Hid (∀ W, _) := fun W => kinds_ok W
  have HI : Hid (∀ k W, ats P k ≤ M → Bel w W → _) := fun k W hk hb => int_as (some ad) c P M (ats P k) hr.1 (dec P (ats P k)) rfl hk (by omega) W (hr.bel hb)
  have HR := Lib.hid hr
  have hb0 := hr.byte 0
  obtain ⟨ad', e, hab, hac⟩ := hr.2.2 (by omega)
  cases e
  have cp := hac 0 (by omega)
  rw [add_zero] at cp
  obtain ⟨b, hb⟩ : ∃ b, P.getD 0 0 = b := ⟨_, rfl⟩
  rw [hb] at cp hb0
  have HBN := Lib.hid hb
  have HCP := Lib.hid cp
  have mi : (0 : Int) < (M : Int) := by omega
  have bi : (b : Int) < 256 := by omega
  clear hr hac hab hb
  rcases Nat.lt_or_ge 2 b with hbig | hsm
  · have hbq : (3 : Int) ≤ (b : Int) := by omega
    have HNO : Hid (∀ x, Vx x → P = bod x → False) := fun x hx h => by
      have h1 := (bod_nums hx).2.2.2.2.1
      rw [← h, HBN.out] at h1
      have := kd_lt x
      omega
    clear cp
    go_enter Try.func33, Try.ntmps33
    go_wp2_with (go_at_call 45; refine (KK.out _).mono ?_; rintro e w1 ⟨g, rfl, hg, hk1, hb1⟩; have c1 := hb1.kp HCP.out; have HB1 := Lib.hid hb1; clear hk1 hb1)
    go_ret2
    exact kd_none HB1.out HNO.out
  · have hbq : ¬ (3 : Int) ≤ (b : Int) := by omega
    clear cp
    go_enter Try.func33, Try.ntmps33
    go_wp2_with (go_at_call 45; refine (KK.out _).mono ?_; rintro e w1 ⟨g, rfl, hg, hk1, hb1⟩; have c1 := hb1.kp HCP.out; have HB1 := Lib.hid hb1; have HK1 := Lib.hid hk1; clear hk1 hb1)
    have HR0 : Hid (ORl P M w1.heap.size w1 (.int .i64 1) (.int .i64 0) (w1.alloc (.cells (nmA P 0) 86))) := ⟨0, _, rfl, by omega, rfl, rfl, by show 1 ≤ M; omega, Bk.nw _ _ _, Bel.rf.al _⟩
    go_loopw [6, 20] (fun s6 s20 wr => ORl P M w1.heap.size w1 s6 s20 wr) (fun _ s20 _ => 4 - (intOf s20).toNat)
    case atStart => exact HR0.out
    case round =>
      clear HR0 KK c1
      obtain ⟨k, wr, hwr, hk, rfl, rfl, hat, hbn, hbe⟩ := hrel
      subst hwr
      have HN := Lib.hid hbn
      have HX := Lib.hid hbe
      rcases Nat.lt_or_ge k 4 with hlt | hge
      · have ki : (k : Int) < 4 := by omega
        have HII := Lib.hid (HI.out k wr hat (HB1.out.tr hbe))
        obtain ⟨d, hd⟩ : ∃ d, dec P (ats P k) = d := ⟨_, rfl⟩
        rw [hd] at HII
        obtain ⟨z, pk, er⟩ := d
        simp only [] at HII
        obtain ⟨a, ha⟩ : ∃ a, ats P k = a := ⟨_, rfl⟩
        rw [ha] at HII hat ⊢
        have HD := Lib.hid hd
        rcases Classical.em (er = 0) with her | her
        · subst her
          obtain ⟨hz64, p, rfl, hp0, hpl, _⟩ := dec_canon HR.out.2.1 (by rw [HR.out.1, ha]; exact hat) hd
          rw [HR.out.1] at hpl
          have f1 := hbn.fr k
          have hnu : num P k = z := by unfold num; rw [hd]
          have hatn : ats P (k + 1) = p := by show (dec P (ats P k)).2.1.toNat = p; rw [hd]; rfl
          have c2 : ∃ v, wr.cell? ⟨w1.heap.size, k, none⟩ = some (.int .i64 v) := by
            rw [hbn.cell k]
            rcases (show k = 0 ∨ k = 1 ∨ k = 2 ∨ k = 3 by omega) with rfl | rfl | rfl | rfl <;> exact ⟨_, rfl⟩
          obtain ⟨v, c2⟩ := c2
          have HST : Hid (Bk (wr.setCell ⟨w1.heap.size, k, none⟩ (.int .i64 z)) w1.heap.size 86 (nmA P (k + 1))) := by
            have h9 := hbn.st k (.int .i64 z)
            rw [← hnu, nmA_set hlt, hnu] at h9
            exact h9
          have HAT := Lib.hid (And.intro hatn hpl)
          clear hbn hbe hd hnu hatn ha hz64
          go_wp2_with (go_at_call 48; refine HII.out.mono ?_; rintro e w4 ⟨rfl, rfl⟩)
          go_roundw
          case rel => exact ⟨k + 1, _, rfl, by omega, by go_num, by rw [HAT.out.1], by rw [HAT.out.1]; exact HAT.out.2, HST.out, HX.out.st (Nat.le_refl _) _⟩
          case measure => simp [intOf]; omega
        · have hq : (er != 0) = true := by simpa using her
          have HNO : Hid (∀ x, Vx x → P = bod x → False) := fun x hx h => by
            have h1 := (bod_nums hx).2.2.2.2.2 k hlt
            rw [← h, HD.out] at h1
            exact her h1
          clear hbn hbe hd ha her
          go_wp2_with (go_at_call 48; refine HII.out.mono ?_; rintro e w4 ⟨rfl, rfl⟩)
          go_ret2
          exact kd_none (HB1.out.tr HX.out) HNO.out
      · obtain rfl : k = 4 := by omega
        obtain ⟨n0, hn0⟩ : ∃ n0, num P 0 = n0 := ⟨_, rfl⟩
        obtain ⟨Lo, hLo⟩ : ∃ n0, num P 1 = n0 := ⟨_, rfl⟩
        obtain ⟨D, hDD⟩ : ∃ n0, num P 2 = n0 := ⟨_, rfl⟩
        obtain ⟨G, hG⟩ : ∃ G, IntKind.i64.wrap (Lo + D) = G := ⟨_, rfl⟩
        have hG2 : wrap64 (Lo + D) = G := (IntWalk.i64_left _).symm.trans hG
        have d0 : wr.cell? ⟨w1.heap.size, 0, none⟩ = some (.int .i64 n0) := by rw [hbn.cell 0, ← hn0]; rfl
        have d1 : wr.cell? ⟨w1.heap.size, 1, none⟩ = some (.int .i64 Lo) := by rw [hbn.cell 1, ← hLo]; rfl
        have d2 : wr.cell? ⟨w1.heap.size, 2, none⟩ = some (.int .i64 D) := by rw [hbn.cell 2, ← hDD]; rfl
        obtain ⟨a, ha⟩ : ∃ a, ats P 4 = a := ⟨_, rfl⟩
        rw [ha] at hat ⊢
        have HXX : Hid (∀ x, Vx x → P = bod x → n0 = (x.length : Int) ∧ Lo = mn x ∧ G = mx x ∧ P.drop a = dt x ∧ kd x = b) := fun x hx h => by
          obtain ⟨h1, h2, h3, h4, h5, _⟩ := bod_nums hx
          rw [← h] at h1 h2 h3 h4 h5
          refine ⟨by rw [← hn0, h1], by rw [← hLo, h2], ?_, by rw [← ha, h4], by rw [← h5, HBN.out]⟩
          rw [← hG, ← hLo, ← hDD, h2, h3]
          have := mx_in hx.2.2 hx.1
          rw [show mn x + (mx x - mn x) = mx x by omega]
          exact IntWalk.i64_in _ (by omega)
        have hbw := HB1.out.tr HX.out
        have HBW := Lib.hid hbw
        rcases (show n0 < 1 ∨ 64 < n0 ∨ (1 ≤ n0 ∧ n0 ≤ 64) by omega) with hc | hc | ⟨hc1, hc2⟩
        · have HNO : Hid (∀ x, Vx x → P = bod x → False) := fun x hx h => by
            have h1 := (HXX.out x hx h).1; have := hx.1; omega
          clear hbn hbe hn0 hLo hDD hG ha hbw
          go_wp2
          go_ret2
          exact kd_none (HBW.out.al _) HNO.out
        · have HNO : Hid (∀ x, Vx x → P = bod x → False) := fun x hx h => by
            have h1 := (HXX.out x hx h).1; have := hx.2.1; omega
          have hc3 : ¬ n0 < 1 := by omega
          clear hbn hbe hn0 hLo hDD hG ha hbw
          go_wp2
          go_ret2
          exact kd_none (HBW.out.al _) HNO.out
        · obtain ⟨n, rfl⟩ := Int.eq_ofNat_of_zero_le (show 0 ≤ n0 by omega)
          have hc3 : ¬ (n : Int) < 1 := by omega
          have hc4 : ¬ 64 < (n : Int) := by omega
          obtain ⟨m1, hm1⟩ : ∃ m1, M - a = m1 := ⟨_, rfl⟩
          obtain ⟨c1', hc1'⟩ : ∃ c1, c - a = c1 := ⟨_, rfl⟩
          have hrq : Rd wr (some (ad.add a)) m1 (P.drop a) := by
            have := rd_dropg (HR.out.bel hbw) a hat
            rwa [hm1] at this
          have HKD : Hid (∀ f, ((b = 0 ∧ f = 78) ∨ (b = 1 ∧ f = 80) ∨ (b = 2 ∧ f = 92)) → ∀ W, Bel wr W → Calls Try.prog f #[.agg #[], .slice (some (ad.add a)) m1 c1', .agg #[.int .i64 0, .int .i64 (n : Int), .int .i64 Lo, .int .i64 G, .int .i64 0]] W (SomeKd (fun x => x.length = n ∧ Lo = mn x ∧ G = mx x ∧ P.drop a = dt x ∧ kd x = b) W)) := fun f hf W h => kd_any (some (ad.add a)) c1' m1 n b P 0 Lo G 0 (P.drop a) (by omega) (by omega) (by omega) (by omega) (by omega) W (hrq.bel h) f hf
          have HFI : Hid (∀ x, Vx x → P = bod x → x.length = n ∧ Lo = mn x ∧ G = mx x ∧ P.drop a = dt x ∧ kd x = b) := fun x hx h => by
            obtain ⟨h1, h2, h3, h4, h5⟩ := HXX.out x hx h
            exact ⟨by omega, h2, h3, h4, h5⟩
          obtain ⟨W0, hW0⟩ : ∃ W0, wr.alloc (.cells #[.int .i64 0, .int .i64 (n : Int), .int .i64 Lo, .int .i64 G, .int .i64 0] 34) = W0 := ⟨_, rfl⟩
          have HW0 : Hid (Bel wr W0) := by rw [← hW0]; exact Bel.rf.al _
          have hh : Bk W0 wr.heap.size 34 #[.int .i64 0, .int .i64 (n : Int), .int .i64 Lo, .int .i64 G, .int .i64 0] := by rw [← hW0]; exact Bk.nw _ _ _
          have g0 : W0.cell? ⟨wr.heap.size, 0, none⟩ = some (.int .i64 0) := hh.cell 0
          have g1 : W0.cell? ⟨wr.heap.size, 1, none⟩ = some (.int .i64 (n : Int)) := hh.cell 1
          have g2 : W0.cell? ⟨wr.heap.size, 2, none⟩ = some (.int .i64 Lo) := hh.cell 2
          have g3 : W0.cell? ⟨wr.heap.size, 3, none⟩ = some (.int .i64 G) := hh.cell 3
          have g4 : W0.cell? ⟨wr.heap.size, 4, none⟩ = some (.int .i64 0) := hh.cell 4
          have g5 : W0.cell? ad = some (.int .u8 (b : Int)) := (hbw.tr HW0.out).kp HCP.out
          have hkb := (HK1.out.bel hbe).bel HW0.out
          have k0 : W0.cell? ⟨g, 0, none⟩ = some (.iface 99 (.agg #[])) := hkb.cell 0
          have k1 : W0.cell? ⟨g, 1, none⟩ = some (.iface 100 (.agg #[])) := hkb.cell 1
          have k2 : W0.cell? ⟨g, 2, none⟩ = some (.iface 101 (.agg #[])) := hkb.cell 2
          have KS : Hid (∀ W', Bel W0 W' → (W'.cell? ⟨wr.heap.size, 0, none⟩ = some (.int .i64 0) ∧ W'.cell? ⟨wr.heap.size, 1, none⟩ = some (.int .i64 (n : Int)) ∧ W'.cell? ⟨wr.heap.size, 2, none⟩ = some (.int .i64 Lo) ∧ W'.cell? ⟨wr.heap.size, 3, none⟩ = some (.int .i64 G) ∧ W'.cell? ⟨wr.heap.size, 4, none⟩ = some (.int .i64 0) ∧ W'.cell? ad = some (.int .u8 (b : Int)) ∧
            W'.cell? ⟨g, 0, none⟩ = some (.iface 99 (.agg #[])) ∧ W'.cell? ⟨g, 1, none⟩ = some (.iface 100 (.agg #[])) ∧ W'.cell? ⟨g, 2, none⟩ = some (.iface 101 (.agg #[])))) := fun W' h => ⟨h.kp g0, h.kp g1, h.kp g2, h.kp g3, h.kp g4, h.kp g5, h.kp k0, h.kp k1, h.kp k2⟩
          have HWE := Lib.hid hW0
          have mi2 : 0 < M := by omega
          have mi3 : ((0 : Int) < (M : Int)) = True := eq_true mi
          clear hW0
          have e5 : (a : Int) ≤ (M : Int) := by omega
          have e6 : (0 : Int) ≤ (a : Int) := by omega
          have e7 : (a : Int) ≤ (c : Int) := by omega
          have e8 : ¬ c = a := by omega
          have e11 : (M : Int) ≤ (c : Int) := by omega
          clear hbn hbe hn0 hLo hDD hG ha hbw hrq hh hkb
          rcases (show b = 0 ∨ b = 1 ∨ b = 2 by omega) with rfl | rfl | rfl
          · have hm0 := fun W => meth_d0 W
            have HKF := Lib.hid (HKD.out 78 (.inl ⟨rfl, rfl⟩))
            go_wp2_with fail
            rw [HWE.out]
            clear g0 g1 g2 g3 g4 g5 k0 k1 k2
            go_region_held3 (fun W' => W'.cell? ⟨wr.heap.size, 0, none⟩ = some (.int .i64 0) ∧ W'.cell? ⟨wr.heap.size, 1, none⟩ = some (.int .i64 (n : Int)) ∧ W'.cell? ⟨wr.heap.size, 2, none⟩ = some (.int .i64 Lo) ∧ W'.cell? ⟨wr.heap.size, 3, none⟩ = some (.int .i64 G) ∧ W'.cell? ⟨wr.heap.size, 4, none⟩ = some (.int .i64 0) ∧ W'.cell? ad = some (.int .u8 ((0 : Nat) : Int)) ∧
              W'.cell? ⟨g, 0, none⟩ = some (.iface 99 (.agg #[])) ∧ W'.cell? ⟨g, 1, none⟩ = some (.iface 100 (.agg #[])) ∧ W'.cell? ⟨g, 2, none⟩ = some (.iface 101 (.agg #[])))
              (first
                | (refine KS.out _ ?_; (repeat (first | exact Bel.rf | exact HB5.out | (with_reducible refine Bel.drwN ?_ _) | (with_reducible refine Bel.drw ?_) | (with_reducible refine Bel.al ?_ _))); done))
              (first
                | (go_at_call 78; refine (HKF.out _ (by first | exact HW0.out | exact HW0.out.drw | exact HW0.out.drwN _)).mono ?_; rintro e w5 ⟨A5, m5, c5, L5, b5, rfl, hz5, h51, h52, h53, h54, h55, hb5, hq5⟩; have HB5 : Hid (Bel W0 w5) := (by first | exact hb5 | exact Bel.rf.drw.tr hb5 | exact (Bel.rf.drwN _).tr hb5); have HQ := Lib.hid (And.intro hz5 (And.intro h54 (And.intro h55 hq5))); have hsz5 : W0.heap.size ≤ w5.heap.size := HB5.out.size; clear hb5 hz5 h54 h55 hq5))
            all_goals
              go_wp2
              go_ret2
              obtain ⟨q1, q2, q3, q4⟩ := HQ.out
              refine ⟨A5, m5, c5, L5, b5, rfl, q1, h51, h52, h53, q2, fun ad e => ?_, HBW.out.tr (HW0.out.tr HB5.out), fun x hx h => q4 x hx (HFI.out x hx h)⟩
              obtain ⟨h9, e9, hh9⟩ := q3 ad e
              exact ⟨h9, e9, Nat.le_trans (HBW.out.tr HW0.out).size hh9⟩
          · have hm0 := fun W => meth_d1 W
            have HKF := Lib.hid (HKD.out 80 (.inr (.inl ⟨rfl, rfl⟩)))
            go_wp2_with fail
            rw [HWE.out]
            clear g0 g1 g2 g3 g4 g5 k0 k1 k2
            go_region_held3 (fun W' => W'.cell? ⟨wr.heap.size, 0, none⟩ = some (.int .i64 0) ∧ W'.cell? ⟨wr.heap.size, 1, none⟩ = some (.int .i64 (n : Int)) ∧ W'.cell? ⟨wr.heap.size, 2, none⟩ = some (.int .i64 Lo) ∧ W'.cell? ⟨wr.heap.size, 3, none⟩ = some (.int .i64 G) ∧ W'.cell? ⟨wr.heap.size, 4, none⟩ = some (.int .i64 0) ∧ W'.cell? ad = some (.int .u8 ((1 : Nat) : Int)) ∧
              W'.cell? ⟨g, 0, none⟩ = some (.iface 99 (.agg #[])) ∧ W'.cell? ⟨g, 1, none⟩ = some (.iface 100 (.agg #[])) ∧ W'.cell? ⟨g, 2, none⟩ = some (.iface 101 (.agg #[])))
              (first
                | (refine KS.out _ ?_; (repeat (first | exact Bel.rf | exact HB5.out | (with_reducible refine Bel.drwN ?_ _) | (with_reducible refine Bel.drw ?_) | (with_reducible refine Bel.al ?_ _))); done))
              (first
                | (go_at_call 80; refine (HKF.out _ (by first | exact HW0.out | exact HW0.out.drw | exact HW0.out.drwN _)).mono ?_; rintro e w5 ⟨A5, m5, c5, L5, b5, rfl, hz5, h51, h52, h53, h54, h55, hb5, hq5⟩; have HB5 : Hid (Bel W0 w5) := (by first | exact hb5 | exact Bel.rf.drw.tr hb5 | exact (Bel.rf.drwN _).tr hb5); have HQ := Lib.hid (And.intro hz5 (And.intro h54 (And.intro h55 hq5))); have hsz5 : W0.heap.size ≤ w5.heap.size := HB5.out.size; clear hb5 hz5 h54 h55 hq5))
            all_goals
              go_wp2
              go_ret2
              obtain ⟨q1, q2, q3, q4⟩ := HQ.out
              refine ⟨A5, m5, c5, L5, b5, rfl, q1, h51, h52, h53, q2, fun ad e => ?_, HBW.out.tr (HW0.out.tr HB5.out), fun x hx h => q4 x hx (HFI.out x hx h)⟩
              obtain ⟨h9, e9, hh9⟩ := q3 ad e
              exact ⟨h9, e9, Nat.le_trans (HBW.out.tr HW0.out).size hh9⟩
          · have hm0 := fun W => meth_d2 W
            have HKF := Lib.hid (HKD.out 92 (.inr (.inr ⟨rfl, rfl⟩)))
            go_wp2_with fail
            rw [HWE.out]
            clear g0 g1 g2 g3 g4 g5 k0 k1 k2
            go_region_held3 (fun W' => W'.cell? ⟨wr.heap.size, 0, none⟩ = some (.int .i64 0) ∧ W'.cell? ⟨wr.heap.size, 1, none⟩ = some (.int .i64 (n : Int)) ∧ W'.cell? ⟨wr.heap.size, 2, none⟩ = some (.int .i64 Lo) ∧ W'.cell? ⟨wr.heap.size, 3, none⟩ = some (.int .i64 G) ∧ W'.cell? ⟨wr.heap.size, 4, none⟩ = some (.int .i64 0) ∧ W'.cell? ad = some (.int .u8 ((2 : Nat) : Int)) ∧
              W'.cell? ⟨g, 0, none⟩ = some (.iface 99 (.agg #[])) ∧ W'.cell? ⟨g, 1, none⟩ = some (.iface 100 (.agg #[])) ∧ W'.cell? ⟨g, 2, none⟩ = some (.iface 101 (.agg #[])))
              (first
                | (refine KS.out _ ?_; (repeat (first | exact Bel.rf | exact HB5.out | (with_reducible refine Bel.drwN ?_ _) | (with_reducible refine Bel.drw ?_) | (with_reducible refine Bel.al ?_ _))); done))
              (first
                | (go_at_call 92; refine (HKF.out _ (by first | exact HW0.out | exact HW0.out.drw | exact HW0.out.drwN _)).mono ?_; rintro e w5 ⟨A5, m5, c5, L5, b5, rfl, hz5, h51, h52, h53, h54, h55, hb5, hq5⟩; have HB5 : Hid (Bel W0 w5) := (by first | exact hb5 | exact Bel.rf.drw.tr hb5 | exact (Bel.rf.drwN _).tr hb5); have HQ := Lib.hid (And.intro hz5 (And.intro h54 (And.intro h55 hq5))); have hsz5 : W0.heap.size ≤ w5.heap.size := HB5.out.size; clear hb5 hz5 h54 h55 hq5))
            all_goals
              go_wp2
              go_ret2
              obtain ⟨q1, q2, q3, q4⟩ := HQ.out
              refine ⟨A5, m5, c5, L5, b5, rfl, q1, h51, h52, h53, q2, fun ad e => ?_, HBW.out.tr (HW0.out.tr HB5.out), fun x hx h => q4 x hx (HFI.out x hx h)⟩
              obtain ⟨h9, e9, hh9⟩ := q3 ad e
              exact ⟨h9, e9, Nat.le_trans (HBW.out.tr HW0.out).size hh9⟩
end Go.Proofs.Ytaplbkfmedofcaa.Sg
