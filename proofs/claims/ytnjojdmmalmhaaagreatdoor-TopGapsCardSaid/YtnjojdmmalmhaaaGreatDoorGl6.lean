/- Merged: SgO SgX SgZ SgA SgAll SgLL EucMath RatioMath RatioMake. -/
import Derived.Test.YtnjojdmmalmhaaaGreatDoorRows
import Derived.Test.YtnjojdmmalmhaaaGreatDoorGl1
import Derived.Test.YtnjojdmmalmhaaaGreatDoorGl2
import Derived.Test.YtnjojdmmalmhaaaGreatDoorGl3
import Derived.Test.YtnjojdmmalmhaaaGreatDoorGl4
import Derived.Test.YtnjojdmmalmhaaaGreatDoorGl5
import Derived.BigQuiet
import Derived.Laws.CopyOwn
import Derived.Below
import Derived.WalkKit
import Derived.WalkLawsBesides
import Derived.WalkSpells
import Derived.Outline
import Derived.Lib.Hide
import Derived.IntWalk
import Derived.WalkMore
import Derived.Deep.QuietTactic
import Derived.Laws.ResultCell
import Derived.Deep.RegionHeld3
import Derived.Deep.DeepCutAuto
namespace Go.Proofs.YtnjojdmmalmhaaaGreatDoor.Sg
open Go.ChangeShapes Go.WideShapes Go.RowKit Wo Bm By Cd Pk Cr
open Wi (Zi zi_bk)
open Sr (zs zs_at zs_len)
set_option linter.unusedVariables false
theorem meth_d0 (w : World) : (method 345 139 (.agg #[]) "shapesearch/segment.decode").run Tryz.prog w = .ok (166, .agg #[]) w := by kernel_rfl
theorem meth_d1 (w : World) : (method 345 140 (.agg #[]) "shapesearch/segment.decode").run Tryz.prog w = .ok (168, .agg #[]) w := by kernel_rfl
theorem meth_d2 (w : World) : (method 345 141 (.agg #[]) "shapesearch/segment.decode").run Tryz.prog w = .ok (179, .agg #[]) w := by kernel_rfl
def nmA (P : List Nat) (k : Nat) : Array Value := #[.int .i64 (if 0 < k then num P 0 else 0), .int .i64 (if 1 < k then num P 1 else 0), .int .i64 (if 2 < k then num P 2 else 0), .int .i64 (if 3 < k then num P 3 else 0)]
theorem nmA_set {P : List Nat} {k : Nat} (h : k < 4) : (nmA P k).setIfInBounds k (.int .i64 (num P k)) = nmA P (k + 1) := by
  rcases (show k = 0 ∨ k = 1 ∨ k = 2 ∨ k = 3 by omega) with rfl | rfl | rfl | rfl <;> simp [nmA]
def ORl (P : List Nat) (M g : Nat) (w : World) (s6 s20 : Value) (wr : World) : Prop := ∃ (k : Nat) (V : World), V = wr ∧ k ≤ 4 ∧ s20 = .int .i64 (k : Int) ∧ s6 = .int .i64 (ats P k : Int) ∧ ats P k ≤ M ∧ Bk wr g 134 (nmA P k) ∧ Bel w wr
theorem kd_none {Q : List Int → Prop} {w w' : World} (hb : Bel w w') (h : ∀ x, Vx x → Q x → False) : SomeKd Q w (.returned (.tuple #[.slice none 0 0, .bool false])) w' :=
  ⟨none, 0, 0, [], false, rfl, ⟨rfl, fun h => by omega⟩, by omega, by omega, by unfold maxLen; omega, fun _ => rfl, fun ad e => (by cases e), hb, fun x hx hq => (h x hx hq).elim⟩
set_option maxHeartbeats 4000000 in
set_option maxRecDepth 100000 in
theorem smp_ok (ad : Addr) (c M : Nat) (P : List Nat) (h5 : 5 ≤ M) (hM : M ≤ 1000000) (hcc : M < c) (hcm : c ≤ 9223372036854775807) (w : World) (hr : Rd w (some ad) M P) :
    Calls Tryz.prog 50 #[.slice (some ad) M c] w (SomeKd (fun x => P = bod x) w) := by
  have KK : Hid (∀ W, _) := fun W => kinds_ok W
  have HI : Hid (∀ k W, ats P k ≤ M → Bel w W → _) := fun k W hk hb => int_as (some ad) c P M (ats P k) hr.1 (dec P (ats P k)) rfl hk (by omega) W (hr.bel hb)
  have HR := Lib.hid hr
  have hb0 := hr.byte 0
  obtain ⟨ad', e, hab, hac⟩ := hr.2.2 (by omega)
  cases e
  have cp := hac 0 (by omega)
  rw [add_zero] at cp
  obtain ⟨b, hb⟩ : ∃ b, P.getD 0 0 = b := ⟨_, rfl⟩
  rw [hb] at cp hb0
  have HBN := Lib.hid hb
  have HCP := Lib.hid cp
  have mi : (0 : Int) < (M : Int) := by omega
  have bi : (b : Int) < 256 := by omega
  clear hr hac hab hb
  rcases Nat.lt_or_ge 2 b with hbig | hsm
  · have hbq : (3 : Int) ≤ (b : Int) := by omega
    have HNO : Hid (∀ x, Vx x → P = bod x → False) := fun x hx h => by
      have h1 := (bod_nums hx).2.2.2.2.1
      rw [← h, HBN.out] at h1
      have := kd_lt x
      omega
    clear cp
    go_enter Tryz.func50, Tryz.ntmps50
    go_wp2_with (go_at_call 55; refine (KK.out _).mono ?_; rintro e w1 ⟨g, rfl, hg, hk1, hb1⟩; have c1 := hb1.kp HCP.out; have HB1 := Lib.hid hb1; clear hk1 hb1)
    go_ret2
    exact kd_none HB1.out HNO.out
  · have hbq : ¬ (3 : Int) ≤ (b : Int) := by omega
    clear cp
    go_enter Tryz.func50, Tryz.ntmps50
    go_wp2_with (go_at_call 55; refine (KK.out _).mono ?_; rintro e w1 ⟨g, rfl, hg, hk1, hb1⟩; have c1 := hb1.kp HCP.out; have HB1 := Lib.hid hb1; have HK1 := Lib.hid hk1; clear hk1 hb1)
    have HR0 : Hid (ORl P M w1.heap.size w1 (.int .i64 1) (.int .i64 0) (w1.alloc (.cells (nmA P 0) 134))) := ⟨0, _, rfl, by omega, rfl, rfl, by show 1 ≤ M; omega, Bk.nw _ _ _, Bel.rf.al _⟩
    go_loopw [6, 20] (fun s6 s20 wr => ORl P M w1.heap.size w1 s6 s20 wr) (fun _ s20 _ => 4 - (intOf s20).toNat)
    case atStart => exact HR0.out
    case round =>
      clear HR0 KK c1
      obtain ⟨k, wr, hwr, hk, rfl, rfl, hat, hbn, hbe⟩ := hrel
      subst hwr
      have HN := Lib.hid hbn
      have HX := Lib.hid hbe
      rcases Nat.lt_or_ge k 4 with hlt | hge
      · have ki : (k : Int) < 4 := by omega
        have HII := Lib.hid (HI.out k wr hat (HB1.out.tr hbe))
        obtain ⟨d, hd⟩ : ∃ d, dec P (ats P k) = d := ⟨_, rfl⟩
        rw [hd] at HII
        obtain ⟨z, pk, er⟩ := d
        simp only [] at HII
        obtain ⟨a, ha⟩ : ∃ a, ats P k = a := ⟨_, rfl⟩
        rw [ha] at HII hat ⊢
        have HD := Lib.hid hd
        rcases Classical.em (er = 0) with her | her
        · subst her
          obtain ⟨hz64, p, rfl, hp0, hpl, _⟩ := dec_canon HR.out.2.1 (by rw [HR.out.1, ha]; exact hat) hd
          rw [HR.out.1] at hpl
          have f1 := hbn.fr k
          have hnu : num P k = z := by unfold num; rw [hd]
          have hatn : ats P (k + 1) = p := by show (dec P (ats P k)).2.1.toNat = p; rw [hd]; rfl
          have c2 : ∃ v, wr.cell? ⟨w1.heap.size, k, none⟩ = some (.int .i64 v) := by
            rw [hbn.cell k]
            rcases (show k = 0 ∨ k = 1 ∨ k = 2 ∨ k = 3 by omega) with rfl | rfl | rfl | rfl <;> exact ⟨_, rfl⟩
          obtain ⟨v, c2⟩ := c2
          have HST : Hid (Bk (wr.setCell ⟨w1.heap.size, k, none⟩ (.int .i64 z)) w1.heap.size 134 (nmA P (k + 1))) := by
            have h9 := hbn.st k (.int .i64 z)
            rw [← hnu, nmA_set hlt, hnu] at h9
            exact h9
          have HAT := Lib.hid (And.intro hatn hpl)
          clear hbn hbe hd hnu hatn ha hz64
          go_wp2_with (go_at_call 74; refine HII.out.mono ?_; rintro e w4 ⟨rfl, rfl⟩)
          go_roundw
          case rel => exact ⟨k + 1, _, rfl, by omega, by go_num, by rw [HAT.out.1], by rw [HAT.out.1]; exact HAT.out.2, HST.out, HX.out.st (Nat.le_refl _) _⟩
          case measure => simp [intOf]; omega
        · have hq : (er != 0) = true := by simpa using her
          have HNO : Hid (∀ x, Vx x → P = bod x → False) := fun x hx h => by
            have h1 := (bod_nums hx).2.2.2.2.2 k hlt
            rw [← h, HD.out] at h1
            exact her h1
          clear hbn hbe hd ha her
          go_wp2_with (go_at_call 74; refine HII.out.mono ?_; rintro e w4 ⟨rfl, rfl⟩)
          go_ret2
          exact kd_none (HB1.out.tr HX.out) HNO.out
      · obtain rfl : k = 4 := by omega
        obtain ⟨n0, hn0⟩ : ∃ n0, num P 0 = n0 := ⟨_, rfl⟩
        obtain ⟨Lo, hLo⟩ : ∃ n0, num P 1 = n0 := ⟨_, rfl⟩
        obtain ⟨D, hDD⟩ : ∃ n0, num P 2 = n0 := ⟨_, rfl⟩
        obtain ⟨G, hG⟩ : ∃ G, IntKind.i64.wrap (Lo + D) = G := ⟨_, rfl⟩
        have hG2 : wrap64 (Lo + D) = G := (IntWalk.i64_left _).symm.trans hG
        have d0 : wr.cell? ⟨w1.heap.size, 0, none⟩ = some (.int .i64 n0) := by rw [hbn.cell 0, ← hn0]; rfl
        have d1 : wr.cell? ⟨w1.heap.size, 1, none⟩ = some (.int .i64 Lo) := by rw [hbn.cell 1, ← hLo]; rfl
        have d2 : wr.cell? ⟨w1.heap.size, 2, none⟩ = some (.int .i64 D) := by rw [hbn.cell 2, ← hDD]; rfl
        obtain ⟨a, ha⟩ : ∃ a, ats P 4 = a := ⟨_, rfl⟩
        rw [ha] at hat ⊢
        have HXX : Hid (∀ x, Vx x → P = bod x → n0 = (x.length : Int) ∧ Lo = mn x ∧ G = mx x ∧ P.drop a = dt x ∧ kd x = b) := fun x hx h => by
          obtain ⟨h1, h2, h3, h4, h5, _⟩ := bod_nums hx
          rw [← h] at h1 h2 h3 h4 h5
          refine ⟨by rw [← hn0, h1], by rw [← hLo, h2], ?_, by rw [← ha, h4], by rw [← h5, HBN.out]⟩
          rw [← hG, ← hLo, ← hDD, h2, h3]
          have := mx_in hx.2.2 hx.1
          rw [show mn x + (mx x - mn x) = mx x by omega]
          exact IntWalk.i64_in _ (by omega)
        have hbw := HB1.out.tr HX.out
        have HBW := Lib.hid hbw
        rcases (show n0 < 1 ∨ 64 < n0 ∨ (1 ≤ n0 ∧ n0 ≤ 64) by omega) with hc | hc | ⟨hc1, hc2⟩
        · have HNO : Hid (∀ x, Vx x → P = bod x → False) := fun x hx h => by
            have h1 := (HXX.out x hx h).1; have := hx.1; omega
          clear hbn hbe hn0 hLo hDD hG ha hbw
          go_wp2
          go_ret2
          exact kd_none (HBW.out.al _) HNO.out
        · have HNO : Hid (∀ x, Vx x → P = bod x → False) := fun x hx h => by
            have h1 := (HXX.out x hx h).1; have := hx.2.1; omega
          have hc3 : ¬ n0 < 1 := by omega
          clear hbn hbe hn0 hLo hDD hG ha hbw
          go_wp2
          go_ret2
          exact kd_none (HBW.out.al _) HNO.out
        · obtain ⟨n, rfl⟩ := Int.eq_ofNat_of_zero_le (show 0 ≤ n0 by omega)
          have hc3 : ¬ (n : Int) < 1 := by omega
          have hc4 : ¬ 64 < (n : Int) := by omega
          obtain ⟨m1, hm1⟩ : ∃ m1, M - a = m1 := ⟨_, rfl⟩
          obtain ⟨c1', hc1'⟩ : ∃ c1, c - a = c1 := ⟨_, rfl⟩
          have hrq : Rd wr (some (ad.add a)) m1 (P.drop a) := by
            have := rd_dropg (HR.out.bel hbw) a hat
            rwa [hm1] at this
          have HKD : Hid (∀ f, ((b = 0 ∧ f = 166) ∨ (b = 1 ∧ f = 168) ∨ (b = 2 ∧ f = 179)) → ∀ W, Bel wr W → Calls Tryz.prog f #[.agg #[], .slice (some (ad.add a)) m1 c1', .agg #[.int .i64 0, .int .i64 (n : Int), .int .i64 Lo, .int .i64 G, .int .i64 0]] W (SomeKd (fun x => x.length = n ∧ Lo = mn x ∧ G = mx x ∧ P.drop a = dt x ∧ kd x = b) W)) := fun f hf W h => kd_any (some (ad.add a)) c1' m1 n b P 0 Lo G 0 (P.drop a) (by omega) (by omega) (by omega) (by omega) (by omega) W (hrq.bel h) f hf
          have HFI : Hid (∀ x, Vx x → P = bod x → x.length = n ∧ Lo = mn x ∧ G = mx x ∧ P.drop a = dt x ∧ kd x = b) := fun x hx h => by
            obtain ⟨h1, h2, h3, h4, h5⟩ := HXX.out x hx h
            exact ⟨by omega, h2, h3, h4, h5⟩
          obtain ⟨W0, hW0⟩ : ∃ W0, wr.alloc (.cells #[.int .i64 0, .int .i64 (n : Int), .int .i64 Lo, .int .i64 G, .int .i64 0] 38) = W0 := ⟨_, rfl⟩
          have HW0 : Hid (Bel wr W0) := by rw [← hW0]; exact Bel.rf.al _
          have hh : Bk W0 wr.heap.size 38 #[.int .i64 0, .int .i64 (n : Int), .int .i64 Lo, .int .i64 G, .int .i64 0] := by rw [← hW0]; exact Bk.nw _ _ _
          have g0 : W0.cell? ⟨wr.heap.size, 0, none⟩ = some (.int .i64 0) := hh.cell 0
          have g1 : W0.cell? ⟨wr.heap.size, 1, none⟩ = some (.int .i64 (n : Int)) := hh.cell 1
          have g2 : W0.cell? ⟨wr.heap.size, 2, none⟩ = some (.int .i64 Lo) := hh.cell 2
          have g3 : W0.cell? ⟨wr.heap.size, 3, none⟩ = some (.int .i64 G) := hh.cell 3
          have g4 : W0.cell? ⟨wr.heap.size, 4, none⟩ = some (.int .i64 0) := hh.cell 4
          have g5 : W0.cell? ad = some (.int .u8 (b : Int)) := (hbw.tr HW0.out).kp HCP.out
          have hkb := (HK1.out.bel hbe).bel HW0.out
          have k0 : W0.cell? ⟨g, 0, none⟩ = some (.iface 139 (.agg #[])) := hkb.cell 0
          have k1 : W0.cell? ⟨g, 1, none⟩ = some (.iface 140 (.agg #[])) := hkb.cell 1
          have k2 : W0.cell? ⟨g, 2, none⟩ = some (.iface 141 (.agg #[])) := hkb.cell 2
          have KS : Hid (∀ W', Bel W0 W' → (W'.cell? ⟨wr.heap.size, 0, none⟩ = some (.int .i64 0) ∧ W'.cell? ⟨wr.heap.size, 1, none⟩ = some (.int .i64 (n : Int)) ∧ W'.cell? ⟨wr.heap.size, 2, none⟩ = some (.int .i64 Lo) ∧ W'.cell? ⟨wr.heap.size, 3, none⟩ = some (.int .i64 G) ∧ W'.cell? ⟨wr.heap.size, 4, none⟩ = some (.int .i64 0) ∧ W'.cell? ad = some (.int .u8 (b : Int)) ∧
            W'.cell? ⟨g, 0, none⟩ = some (.iface 139 (.agg #[])) ∧ W'.cell? ⟨g, 1, none⟩ = some (.iface 140 (.agg #[])) ∧ W'.cell? ⟨g, 2, none⟩ = some (.iface 141 (.agg #[])))) := fun W' h => ⟨h.kp g0, h.kp g1, h.kp g2, h.kp g3, h.kp g4, h.kp g5, h.kp k0, h.kp k1, h.kp k2⟩
          have HWE := Lib.hid hW0
          have mi2 : 0 < M := by omega
          have mi3 : ((0 : Int) < (M : Int)) = True := eq_true mi
          clear hW0
          have e5 : (a : Int) ≤ (M : Int) := by omega
          have e6 : (0 : Int) ≤ (a : Int) := by omega
          have e7 : (a : Int) ≤ (c : Int) := by omega
          have e8 : ¬ c = a := by omega
          have e11 : (M : Int) ≤ (c : Int) := by omega
          clear hbn hbe hn0 hLo hDD hG ha hbw hrq hh hkb
          rcases (show b = 0 ∨ b = 1 ∨ b = 2 by omega) with rfl | rfl | rfl
          · have hm0 := fun W => meth_d0 W
            have HKF := Lib.hid (HKD.out 166 (.inl ⟨rfl, rfl⟩))
            go_wp2_with fail
            rw [HWE.out]
            clear g0 g1 g2 g3 g4 g5 k0 k1 k2
            go_region_held3 (fun W' => W'.cell? ⟨wr.heap.size, 0, none⟩ = some (.int .i64 0) ∧ W'.cell? ⟨wr.heap.size, 1, none⟩ = some (.int .i64 (n : Int)) ∧ W'.cell? ⟨wr.heap.size, 2, none⟩ = some (.int .i64 Lo) ∧ W'.cell? ⟨wr.heap.size, 3, none⟩ = some (.int .i64 G) ∧ W'.cell? ⟨wr.heap.size, 4, none⟩ = some (.int .i64 0) ∧ W'.cell? ad = some (.int .u8 ((0 : Nat) : Int)) ∧
              W'.cell? ⟨g, 0, none⟩ = some (.iface 139 (.agg #[])) ∧ W'.cell? ⟨g, 1, none⟩ = some (.iface 140 (.agg #[])) ∧ W'.cell? ⟨g, 2, none⟩ = some (.iface 141 (.agg #[])))
              (first
                | (refine KS.out _ ?_; (repeat (first | exact Bel.rf | exact HB5.out | (with_reducible refine Bel.drwN ?_ _) | (with_reducible refine Bel.drw ?_) | (with_reducible refine Bel.al ?_ _))); done))
              (first
                | (go_at_call 166; refine (HKF.out _ (by first | exact HW0.out | exact HW0.out.drw | exact HW0.out.drwN _)).mono ?_; rintro e w5 ⟨A5, m5, c5, L5, b5, rfl, hz5, h51, h52, h53, h54, h55, hb5, hq5⟩; have HB5 : Hid (Bel W0 w5) := (by first | exact hb5 | exact Bel.rf.drw.tr hb5 | exact (Bel.rf.drwN _).tr hb5); have HQ := Lib.hid (And.intro hz5 (And.intro h54 (And.intro h55 hq5))); have hsz5 : W0.heap.size ≤ w5.heap.size := HB5.out.size; clear hb5 hz5 h54 h55 hq5))
            all_goals
              go_wp2
              go_ret2
              obtain ⟨q1, q2, q3, q4⟩ := HQ.out
              refine ⟨A5, m5, c5, L5, b5, rfl, q1, h51, h52, h53, q2, fun ad e => ?_, HBW.out.tr (HW0.out.tr HB5.out), fun x hx h => q4 x hx (HFI.out x hx h)⟩
              obtain ⟨h9, e9, hh9⟩ := q3 ad e
              exact ⟨h9, e9, Nat.le_trans (HBW.out.tr HW0.out).size hh9⟩
          · have hm0 := fun W => meth_d1 W
            have HKF := Lib.hid (HKD.out 168 (.inr (.inl ⟨rfl, rfl⟩)))
            go_wp2_with fail
            rw [HWE.out]
            clear g0 g1 g2 g3 g4 g5 k0 k1 k2
            go_region_held3 (fun W' => W'.cell? ⟨wr.heap.size, 0, none⟩ = some (.int .i64 0) ∧ W'.cell? ⟨wr.heap.size, 1, none⟩ = some (.int .i64 (n : Int)) ∧ W'.cell? ⟨wr.heap.size, 2, none⟩ = some (.int .i64 Lo) ∧ W'.cell? ⟨wr.heap.size, 3, none⟩ = some (.int .i64 G) ∧ W'.cell? ⟨wr.heap.size, 4, none⟩ = some (.int .i64 0) ∧ W'.cell? ad = some (.int .u8 ((1 : Nat) : Int)) ∧
              W'.cell? ⟨g, 0, none⟩ = some (.iface 139 (.agg #[])) ∧ W'.cell? ⟨g, 1, none⟩ = some (.iface 140 (.agg #[])) ∧ W'.cell? ⟨g, 2, none⟩ = some (.iface 141 (.agg #[])))
              (first
                | (refine KS.out _ ?_; (repeat (first | exact Bel.rf | exact HB5.out | (with_reducible refine Bel.drwN ?_ _) | (with_reducible refine Bel.drw ?_) | (with_reducible refine Bel.al ?_ _))); done))
              (first
                | (go_at_call 168; refine (HKF.out _ (by first | exact HW0.out | exact HW0.out.drw | exact HW0.out.drwN _)).mono ?_; rintro e w5 ⟨A5, m5, c5, L5, b5, rfl, hz5, h51, h52, h53, h54, h55, hb5, hq5⟩; have HB5 : Hid (Bel W0 w5) := (by first | exact hb5 | exact Bel.rf.drw.tr hb5 | exact (Bel.rf.drwN _).tr hb5); have HQ := Lib.hid (And.intro hz5 (And.intro h54 (And.intro h55 hq5))); have hsz5 : W0.heap.size ≤ w5.heap.size := HB5.out.size; clear hb5 hz5 h54 h55 hq5))
            all_goals
              go_wp2
              go_ret2
              obtain ⟨q1, q2, q3, q4⟩ := HQ.out
              refine ⟨A5, m5, c5, L5, b5, rfl, q1, h51, h52, h53, q2, fun ad e => ?_, HBW.out.tr (HW0.out.tr HB5.out), fun x hx h => q4 x hx (HFI.out x hx h)⟩
              obtain ⟨h9, e9, hh9⟩ := q3 ad e
              exact ⟨h9, e9, Nat.le_trans (HBW.out.tr HW0.out).size hh9⟩
          · have hm0 := fun W => meth_d2 W
            have HKF := Lib.hid (HKD.out 179 (.inr (.inr ⟨rfl, rfl⟩)))
            go_wp2_with fail
            rw [HWE.out]
            clear g0 g1 g2 g3 g4 g5 k0 k1 k2
            go_region_held3 (fun W' => W'.cell? ⟨wr.heap.size, 0, none⟩ = some (.int .i64 0) ∧ W'.cell? ⟨wr.heap.size, 1, none⟩ = some (.int .i64 (n : Int)) ∧ W'.cell? ⟨wr.heap.size, 2, none⟩ = some (.int .i64 Lo) ∧ W'.cell? ⟨wr.heap.size, 3, none⟩ = some (.int .i64 G) ∧ W'.cell? ⟨wr.heap.size, 4, none⟩ = some (.int .i64 0) ∧ W'.cell? ad = some (.int .u8 ((2 : Nat) : Int)) ∧
              W'.cell? ⟨g, 0, none⟩ = some (.iface 139 (.agg #[])) ∧ W'.cell? ⟨g, 1, none⟩ = some (.iface 140 (.agg #[])) ∧ W'.cell? ⟨g, 2, none⟩ = some (.iface 141 (.agg #[])))
              (first
                | (refine KS.out _ ?_; (repeat (first | exact Bel.rf | exact HB5.out | (with_reducible refine Bel.drwN ?_ _) | (with_reducible refine Bel.drw ?_) | (with_reducible refine Bel.al ?_ _))); done))
              (first
                | (go_at_call 179; refine (HKF.out _ (by first | exact HW0.out | exact HW0.out.drw | exact HW0.out.drwN _)).mono ?_; rintro e w5 ⟨A5, m5, c5, L5, b5, rfl, hz5, h51, h52, h53, h54, h55, hb5, hq5⟩; have HB5 : Hid (Bel W0 w5) := (by first | exact hb5 | exact Bel.rf.drw.tr hb5 | exact (Bel.rf.drwN _).tr hb5); have HQ := Lib.hid (And.intro hz5 (And.intro h54 (And.intro h55 hq5))); have hsz5 : W0.heap.size ≤ w5.heap.size := HB5.out.size; clear hb5 hz5 h54 h55 hq5))
            all_goals
              go_wp2
              go_ret2
              obtain ⟨q1, q2, q3, q4⟩ := HQ.out
              refine ⟨A5, m5, c5, L5, b5, rfl, q1, h51, h52, h53, q2, fun ad e => ?_, HBW.out.tr (HW0.out.tr HB5.out), fun x hx h => q4 x hx (HFI.out x hx h)⟩
              obtain ⟨h9, e9, hh9⟩ := q3 ad e
              exact ⟨h9, e9, Nat.le_trans (HBW.out.tr HW0.out).size hh9⟩
end Go.Proofs.YtnjojdmmalmhaaaGreatDoor.Sg
namespace Go.Proofs.YtnjojdmmalmhaaaGreatDoor.Sg
open Go.ChangeShapes Go.WideShapes Go.RowKit Wo Bm By Cd Pk Cr
open Wi (Zi zi_bk)
open Sr (zs zs_at zs_len)
set_option linter.unusedVariables false
def SomeDc (P : List Nat) (w : World) (e : Ending) (w' : World) : Prop := ∃ (A : Option Addr) (n c : Nat) (L : List Int) (er : Int), e = .returned (.tuple #[.slice A n c, .int .i64 er]) ∧ Zi w' A n L ∧ n ≤ 64 ∧ n ≤ c ∧ c ≤ maxLen ∧ (A = none → c = 0) ∧ (∀ ad, A = some ad → ∃ h, ad = ⟨h, 0, none⟩ ∧ w.heap.size ≤ h) ∧ Bel w w' ∧
  (er ≠ 0 → A = none ∧ n = 0 ∧ c = 0) ∧ (er = 0 → Vx L ∧ seg L = P) ∧ (∀ x, Vx x → P = seg x → er = 0 ∧ L = x)
theorem dc_no {P : List Nat} {w w' : World} (er : Int) (her : er ≠ 0) (hb : Bel w w') (h : ∀ x, Vx x → P = seg x → False) : SomeDc P w (.returned (.tuple #[.slice none 0 0, .int .i64 er])) w' :=
  ⟨none, 0, 0, [], er, rfl, ⟨rfl, fun h => by omega⟩, by omega, by omega, by unfold maxLen; omega, fun _ => rfl, fun ad e => (by cases e), hb, fun _ => ⟨rfl, rfl, rfl⟩, fun h => absurd h her, fun x hx hp => (h x hx hp).elim⟩
set_option maxHeartbeats 4000000 in
set_option maxRecDepth 100000 in
theorem dec_any (A : Option Addr) (c M : Nat) (P : List Nat) (hM : M ≤ 1000000) (hc : M ≤ c) (hcm : c ≤ maxLen) (w : World) (hr : Rd w A M P) :
    Calls Tryz.prog 28 #[.slice A M c] w (SomeDc P w) := by
  have HR := Lib.hid hr
  rcases Nat.lt_or_ge M 9 with h9 | h9
  · have e1 : (M : Int) < 9 := by omega
    have HNO : Hid (∀ x, Vx x → P = seg x → False) := fun x hx h => by
      have h1 := (seg_len hx).1
      rw [← h, hr.1] at h1
      omega
    clear hr
    go_enter Tryz.func28, Tryz.ntmps28
    go_wp2
    go_ret2
    exact dc_no 2 (by decide) Bel.rf HNO.out
  · obtain ⟨ad, rfl, _⟩ := hr.2.2 (by omega)
    obtain ⟨E, hE⟩ : ∃ E, E + 4 = M := ⟨M - 4, by omega⟩
    have HH := Lib.hid (fun W (hb : Bel w W) => holds_okg ad c M E P hE hM hc hcm W (hr.bel hb))
    have HSX : Hid (∀ x, Vx x → P = seg x → P.take E = bod x ∧ P.drop E = seal4 (crc (bod x))) := fun x hx h => by
      have h1 := (seg_len hx).2.2
      have h2 := hr.1
      rw [h] at h2
      have e : E = (bod x).length := by omega
      subst h e
      exact seg_parts
    have e1 : ¬ (M : Int) < 9 := by omega
    rcases Classical.em (seal4 (crc (P.take E)) = P.drop E) with hs | hs
    · rw [decide_eq_true hs] at HH
      have hrt := rd_take hr E (by omega)
      have HSM := Lib.hid (fun W (hb : Bel w W) => smp_ok ad c E (P.take E) (by omega) (by omega) (by omega) (by unfold maxLen at hcm; omega) W (hrt.bel hb))
      have e2 : (M : Int) - 4 = (E : Int) := by omega
      have e3 : (0 : Int) ≤ (E : Int) := by omega
      have e4 : (E : Int) ≤ (c : Int) := by omega
      have e5 : (E : Int) ≤ (M : Int) := by omega
      have e6 : (M : Int) ≤ (c : Int) := by omega
      clear hr hs hrt
      go_enter Tryz.func28, Tryz.ntmps28
      go_wp2_with fail
      go_at_call 49
      refine (HH.out _ (by repeat (first | exact Bel.rf | (with_reducible refine Bel.drwN ?_ _) | (with_reducible refine Bel.drw ?_)))).mono ?_
      rintro e w1 ⟨rfl, hb1⟩
      have HB1 : Hid (Bel w w1) := by first | exact hb1 | exact Bel.rf.drw.tr hb1 | exact (Bel.rf.drwN _).tr hb1
      clear hb1
      go_wp2_with fail
      go_at_call 50
      refine (HSM.out _ (by first | exact HB1.out | exact HB1.out.drw | exact HB1.out.drwN _)).mono ?_
      rintro e w2 ⟨A2, n, c2, L, b, rfl, hz, hn, hnc, hcm2, hA2, hf2, hb2, hq⟩
      have HB2 : Hid (Bel w w2) := by first | exact HB1.out.tr hb2 | exact HB1.out.drw.tr hb2 | exact (HB1.out.drwN _).tr hb2
      have HZ := Lib.hid hz
      have HF : Hid (∀ ad, A2 = some ad → ∃ h, ad = ⟨h, 0, none⟩ ∧ w.heap.size ≤ h) := fun ad e => by
        obtain ⟨h, e1, h1⟩ := hf2 ad e
        exact ⟨h, e1, Nat.le_trans HB1.out.size h1⟩
      have HQ := Lib.hid hq
      clear hz hf2 hb2 hq
      rcases b with _ | _
      · have HNO : Hid (∀ x, Vx x → P = seg x → False) := fun x hx h => by
          have h1 := (HQ.out x hx (HSX.out x hx h).1).1
          cases h1
        go_wp2
        go_ret2
        exact dc_no 3 (by decide) HB2.out HNO.out
      · rcases Classical.em (Vx L) with hv | hv
        · have hlen := HZ.out.1
          obtain ⟨ad2, rfl, _⟩ := HZ.out.2 (by have := hv.1; omega)
          obtain ⟨g, rfl, hg⟩ := HF.out ad2 rfl
          have HE := Lib.hid (fun W (hb : Bel w2 W) => enc_ok g 0 c2 n L hv hlen W (HZ.out.bel hb))
          have HV := Lib.hid hv
          clear hv
          go_wp2_with fail
          go_at_call 26
          refine (HE.out _ (by first | exact Bel.rf | exact Bel.rf.drw | exact Bel.rf.drwN _)).mono ?_
          rintro e w3 ⟨u, rfl, ho3, hb3⟩
          have HB3 : Hid (Bel w2 w3) := by first | exact hb3 | exact Bel.rf.drw.tr hb3 | exact (Bel.rf.drwN _).tr hb3
          obtain ⟨g3, c3, rfl, _, _, _, hr3⟩ := own_rd ho3 (seg_byte HV.out) rfl (by have := (seg_len HV.out).1; omega)
          have HEQ := Lib.hid (fun W (hb : Bel w3 W) => equal_ok (some ⟨g3, 0, none⟩) (some ad) c3 c (seg L).length M (seg L) P W (hr3.bel hb) (HR.out.bel ((HB2.out.tr HB3.out).tr hb)))
          clear ho3 hb3 hr3
          rcases Classical.em (seg L = P) with hp | hp
          · rw [decide_eq_true hp] at HEQ
            have HP := Lib.hid hp
            clear hp
            go_wp2_with (go_at_call 51; refine (HEQ.out _ (by first | exact Bel.rf | exact Bel.rf.drw | exact Bel.rf.drwN _)).mono ?_; rintro e w4 ⟨rfl, rfl⟩)
            go_ret2
            refine ⟨_, n, c2, L, 0, rfl, HZ.out.bel (by first | exact HB3.out | exact HB3.out.drw | exact HB3.out.drwN _), hn, hnc, hcm2, hA2, HF.out, by first | exact HB2.out.tr HB3.out | exact (HB2.out.tr HB3.out).drw | exact (HB2.out.tr HB3.out).drwN _, fun h => absurd rfl h, fun _ => ⟨HV.out, HP.out⟩, fun x hx h => ⟨rfl, (HQ.out x hx (HSX.out x hx h).1).2⟩⟩
          · rw [decide_eq_false hp] at HEQ
            have HNO : Hid (∀ x, Vx x → P = seg x → False) := fun x hx h => by
              have h1 := (HQ.out x hx (HSX.out x hx h).1).2
              subst h1
              exact hp h.symm
            clear hp
            go_wp2_with (go_at_call 51; refine (HEQ.out _ (by first | exact Bel.rf | exact Bel.rf.drw | exact Bel.rf.drwN _)).mono ?_; rintro e w4 ⟨rfl, rfl⟩)
            go_ret2
            exact dc_no 3 (by decide) (by first | exact HB2.out.tr HB3.out | exact (HB2.out.tr HB3.out).drw | exact (HB2.out.tr HB3.out).drwN _) HNO.out
        · have HE := Lib.hid (fun W (hb : Bel w2 W) => enc_bad A2 c2 n L (by omega) hv W (HZ.out.bel hb))
          have HNO : Hid (∀ x, Vx x → P = seg x → False) := fun x hx h => by
            have h1 := (HQ.out x hx (HSX.out x hx h).1).2
            subst h1
            exact hv hx
          clear hv
          go_wp2_with fail
          go_at_call 26
          refine (HE.out _ (by first | exact Bel.rf | exact Bel.rf.drw | exact Bel.rf.drwN _)).mono ?_
          rintro e w3 ⟨er, rfl, her, hb3⟩
          have HB3 : Hid (Bel w2 w3) := by first | exact hb3 | exact Bel.rf.drw.tr hb3 | exact (Bel.rf.drwN _).tr hb3
          have hq : (er != 0) = true := by simpa using her
          clear her hb3
          go_wp2
          go_ret2
          exact dc_no 3 (by decide) (HB2.out.tr HB3.out) HNO.out
    · rw [decide_eq_false hs] at HH
      have HNO : Hid (∀ x, Vx x → P = seg x → False) := fun x hx h => by
        obtain ⟨h1, h2⟩ := HSX.out x hx h
        exact hs (by rw [h1, h2])
      clear hr hs
      go_enter Tryz.func28, Tryz.ntmps28
      go_wp2_with fail
      go_at_call 49
      refine (HH.out _ (by repeat (first | exact Bel.rf | (with_reducible refine Bel.drwN ?_ _) | (with_reducible refine Bel.drw ?_)))).mono ?_
      rintro e w1 ⟨rfl, hb1⟩
      have HB1 : Hid (Bel w w1) := by first | exact hb1 | exact Bel.rf.drw.tr hb1 | exact (Bel.rf.drwN _).tr hb1
      clear hb1
      go_wp2
      go_ret2
      exact dc_no 5 (by decide) HB1.out HNO.out
end Go.Proofs.YtnjojdmmalmhaaaGreatDoor.Sg
namespace Go.Proofs.YtnjojdmmalmhaaaGreatDoor.Sg
open Go.ChangeShapes Go.WideShapes Go.RowKit Wo Bm By Cd Pk Cr
open Wi (Zi zi_bk)
open Sr (zs zs_at zs_len Ok Ch)
set_option linter.unusedVariables false
theorem Bk.eqc {w : World} {g : Nat} {t : TypeId} {cs ds : Array Value} (h : Bk w g t cs) (e : cs = ds) : Bk w g t ds := e ▸ h
set_option maxHeartbeats 2000000 in
set_option maxRecDepth 100000 in
theorem sum_ok (A : Option Addr) (c M : Nat) (x : List Int) (hv : Vx x) (hM : M ≤ 1000000) (hc : M ≤ c) (hcm : c ≤ maxLen) (w : World) (hr : Rd w A M (seg x)) :
    Calls Tryz.prog 12 #[.slice A M c] w fun e w' => e = .returned (.tuple #[hdv (kd x) x.length (mn x) (mx x) x.sum, .int .i64 0]) ∧ Bel w w' := by
  have HD := Lib.hid (fun W (hb : Bel w W) => dec_any A c M (seg x) hM hc hcm W (hr.bel hb))
  have HV := Lib.hid hv
  obtain ⟨n, hn⟩ : ∃ n, x.length = n := ⟨_, rfl⟩
  have hn1 : 1 ≤ n ∧ n ≤ 64 := by have := hv.1; have := hv.2.1; omega
  have HN := Lib.hid hn
  have HBE : Hid (∀ (g c2 : Nat) W, Zi W (some ⟨g, 0, none⟩) n x → Calls Tryz.prog 30 #[.slice (some ⟨g, 0, none⟩) n c2] W fun e w' => (∃ (A : Option Addr) (N c : Nat), e = .returned (.tuple #[.agg #[.int .i64 (kd x : Int), .int .i64 (n : Int), .int .i64 (mn x), .int .i64 (mx x), .int .i64 x.sum], .slice A N c])) ∧ Bel W w') := fun g c2 W hz => by
    refine (best_ok g 0 c2 n x hv hn W hz).mono ?_
    rintro e w' ⟨A, N, c, he, _, _, _, hb⟩
    unfold hdv at he
    rw [hn] at he
    exact ⟨⟨A, N, c, he⟩, hb⟩
  rw [hn]
  clear hr hv hn
  go_enter Tryz.func12, Tryz.ntmps12
  go_wp2_with fail
  go_at_call 28
  refine (HD.out _ (by repeat (first | exact Bel.rf | (with_reducible refine Bel.drwN ?_ _) | (with_reducible refine Bel.drw ?_) | (with_reducible refine Bel.al ?_ _)))).mono ?_
  rintro e w1 ⟨A1, n1, c1, L, er, rfl, hz, h1, h2, h3, h4, h5, hb1, _, _, hx⟩
  obtain ⟨her, hLx⟩ := hx x HV.out rfl
  have hxl := hLx.symm
  subst her hxl
  obtain rfl : n1 = n := by have := hz.1; have := HN.out; omega
  obtain ⟨ad, rfl, _⟩ := hz.2 (by omega)
  obtain ⟨g, rfl, hg⟩ := h5 ad rfl
  have HZ := Lib.hid hz
  have hbk : Bk w1 w.heap.size 38 (hcs 0 0 0 0 0) := (show Bk (w.alloc (.cells (hcs 0 0 0 0 0) 38)) w.heap.size 38 (hcs 0 0 0 0 0) from Bk.nw _ _ _).bel (by first | exact hb1 | exact (Bel.rf.drwN _).tr hb1)
  have HB0 := Lib.hid hbk
  have HB1 : Hid (Bel w w1) := by first | exact (Bel.rf.al _).tr hb1 | exact ((Bel.rf.al _).drwN _).tr hb1
  clear hz hb1 hbk hx h4 h5
  go_upto_region 5 with (go_at_call 30; refine (HBE.out _ _ _ HZ.out).mono ?_; rintro e w2 ⟨⟨A2, N2, c2, rfl⟩, hb2⟩; have HB0' := Lib.hid (HB0.out.bel hb2); have HB2 : Hid (Bel w w2) := HB1.out.tr hb2; clear hb2)
  obtain ⟨m, hm⟩ : ∃ m, mn x = m := ⟨_, rfl⟩
  obtain ⟨M', hM'⟩ : ∃ m, mx x = m := ⟨_, rfl⟩
  obtain ⟨s, hs⟩ : ∃ m, x.sum = m := ⟨_, rfl⟩
  rw [hm, hM', hs]
  obtain ⟨W3, hW3⟩ : ∃ W3, w2.alloc (.cells #[.int .i64 (kd x : Int), .int .i64 (n1 : Int), .int .i64 m, .int .i64 M', .int .i64 s] 38) = W3 := ⟨_, rfl⟩
  rw [hW3]
  have HB3 : Hid (Bel w W3) := by rw [← hW3]; exact HB2.out.al _
  have hb9 : Bk W3 w.heap.size 38 (hcs 0 0 0 0 0) := by rw [← hW3]; exact HB0'.out.al _
  have hb8 : Bk W3 w2.heap.size 38 (hcs (kd x : Int) (n1 : Int) m M' s) := by rw [← hW3]; exact Bk.nw _ _ _
  have d0 := hb9.cell 0
  have d1 := hb9.cell 1
  have d2 := hb9.cell 2
  have d3 := hb9.cell 3
  have d4 := hb9.cell 4
  have y0 := hb9.fr 0
  have y1 := hb9.fr 1
  have y2 := hb9.fr 2
  have y3 := hb9.fr 3
  have y4 := hb9.fr 4
  have v0 := hb8.cell 0
  have v1 := hb8.cell 1
  have v2 := hb8.cell 2
  have v3 := hb8.cell 3
  have v4 := hb8.cell 4
  simp only [hcs, List.getElem?_toArray, List.getElem?_cons_zero, List.getElem?_cons_succ] at d0 d1 d2 d3 d4 v0 v1 v2 v3 v4
  have HB9 := Lib.hid hb9
  have HMS := Lib.hid (And.intro hm (And.intro hM' hs))
  clear hb9 hb8 hm hM' hs hW3
  go_wp2
  refine bodyPost_ret (v := .tuple #[hdv (kd x : Int) (n1 : Int) m M' s, .int .i64 0]) (results_h Tryz.results12 _ _ w.heap.size (kd x : Int) (n1 : Int) m M' s rfl (((((HB9.out.st 0 (.int .i64 (kd x : Int))).st 1 (.int .i64 (n1 : Int))).st 2 (.int .i64 m)).st 3 (.int .i64 M')).st 4 (.int .i64 s))) rfl ?_
  exact ⟨by rw [HMS.out.1, HMS.out.2.1, HMS.out.2.2], ((((HB3.out.st (Nat.le_refl _) _).st (Nat.le_refl _) _).st (Nat.le_refl _) _).st (Nat.le_refl _) _).st (Nat.le_refl _) _⟩
end Go.Proofs.YtnjojdmmalmhaaaGreatDoor.Sg
namespace Go.Proofs.YtnjojdmmalmhaaaGreatDoor.Sg
open Go.ChangeShapes Go.WideShapes Go.RowKit Wo Bm By Cd Pk Cr
open Wi (Zi zi_bk row_form own_zi)
open Sr (zs zs_at zs_len Ok Ch pick_any range_any list_any lst_new)
set_option linter.unusedVariables false
def SomeMade (g : Nat) (w : World) (e : Ending) (w' : World) : Prop := ∃ (h c n : Nat) (x : List Int), e = .returned (.slice (some ⟨h, 0, none⟩) n c) ∧ Zi w' (some ⟨h, 0, none⟩) n x ∧ x.length = n ∧ n ≤ c ∧ Vx x ∧ w.heap.size ≤ h ∧ Ok w' g ∧ Ch g w w'
theorem bod_777 : bod [7, 7, 7] = [0, 6, 14, 0, 42] := by
  have e : mn [7, 7, 7] = 7 := by decide
  have e2 : mx [7, 7, 7] = 7 := by decide
  unfold bod kd dt
  rw [e, e2]
  decide
theorem vx_777 : Vx [7, 7, 7] := ⟨by decide, by decide, fun n hn => by simp at hn; omega⟩
theorem len_777 : (seg [7, 7, 7]).length = 9 := by rw [(seg_len vx_777).2.2, bod_777]; rfl
theorem tak_777 : (seg [7, 7, 7]).take 5 = [0, 6, 14, 0, 42] := by
  have := (seg_parts (x := [7, 7, 7])).1
  rw [bod_777] at this
  exact this
theorem hd_777 : hdv (kd [7, 7, 7]) ([7, 7, 7] : List Int).length (mn [7, 7, 7]) (mx [7, 7, 7]) ([7, 7, 7] : List Int).sum = hdv 0 3 7 7 21 := by
  have e : mn [7, 7, 7] = 7 := by decide
  have e2 : mx [7, 7, 7] = 7 := by decide
  have e3 : kd [7, 7, 7] = 0 := by unfold kd; rw [e, e2]; rfl
  rw [e, e2, e3]
  rfl
theorem sb_777 : sb [0, 6, 14, 0, 42] = { data := #[0, 6, 14, 0, 42] } := by rfl
end Go.Proofs.YtnjojdmmalmhaaaGreatDoor.Sg
namespace Go.Proofs.YtnjojdmmalmhaaaGreatDoor.Se
open Go.ChangeShapes Go.WideShapes Go.RowKit Wo Sr Wi
set_option linter.unusedVariables false
theorem good_out {L : List Int} {i m : Nat} (h : L.length < i + m) : good L m i = false := by
  unfold good; exact decide_eq_false (fun h2 => by omega)
theorem good_part {L : List Int} {i m : Nat} (h : i + m ≤ L.length) : (!good L m i) = true ↔ ∃ j, j < m ∧ ((L.drop i).take m).getD j 0 = 1073741824 := by
  have e : ∀ j, j < m → ((L.drop i).take m).getD j 0 = L.getD (i + j) 1073741824 := fun j hj => by
    simp only [List.getD_eq_getElem?_getD, List.getElem?_take, List.getElem?_drop, hj, if_true]
    rw [List.getElem?_eq_getElem (show i + j < L.length by omega)]; rfl
  constructor
  · intro hb
    have hg : ¬ good L m i = true := by simpa using hb
    rw [good_iff] at hg
    refine Classical.byContradiction fun hne => hg ⟨h, fun j hj h2 => hne ⟨j, hj, by rw [e j hj]; exact h2⟩⟩
  · rintro ⟨j, hj, h2⟩
    have : ¬ good L m i = true := by
      rw [good_iff]
      rintro ⟨_, h3⟩
      exact h3 j hj (by rw [← e j hj]; exact h2)
    simpa using this
set_option maxHeartbeats 4000000 in
theorem window_any (st sp : Int) (A : Option Addr) (n c : Nat) (L : List Int) (h : Sb st sp n) (hs : Sv L) (i m : Nat) (m1 : 1 ≤ m) (m2 : m ≤ 300) (i2 : i ≤ 2500) (w : World) (hv : Vs w A n c L) :
    Calls Tryz.prog 17 #[.agg #[.int .i64 st, .int .i64 sp, .slice A n c], .int .i64 (i : Int), .int .i64 (m : Int)] w (SomeWin L i m w) := by
  have hn : n ≤ 2000 := h.2.2.2.2
  have hl := hv.1.1
  have VA : Hid (∀ W, Zi W A n L → _) := fun W hW => valid_ok st sp A n c L h hs W hW
  have HV := Lib.hid hv
  have HK := Lib.hid (Bk.nw w 24 #[.int .i64 st, .int .i64 sp, .slice A n c])
  have mi : 1 ≤ (m : Int) := by omega
  have mi2 : (m : Int) ≤ 300 := by omega
  have ii : (i : Int) ≤ 2500 := by omega
  have ni : (n : Int) ≤ 2000 := by omega
  rcases Nat.lt_or_ge n (i + m) with hlt | hge
  · have hg := good_out (L := L) (i := i) (m := m) (by omega)
    have WN : Hid (∀ W, _) := fun W => within_no st sp A n c i m (by omega) hlt (by omega) (by omega) W
    have HR : Hid (wz L i m = [] ∧ we L i m = 1) := ⟨by unfold wz; rw [hg]; rfl, by unfold we; rw [hg, if_neg (by simp), if_neg (by omega)]⟩
    clear hv hl hg h hs hlt
    go_enter Tryz.func17, Tryz.ntmps17
    go_wp2_with (first
      | (go_at_call 24; refine (VA.out _ (HV.out.1.bel (Bel.rf.al _))).mono ?_; rintro e w2 ⟨rfl, hb2⟩; have B1 := HK.out.bel hb2; have d0 := B1.cell 0; have d1 := B1.cell 1; have d2 := B1.cell 2; have dl := B1.lt; clear B1; have HB2 := Lib.hid hb2; clear hb2)
      | (go_at_call 36; refine (WN.out _).mono ?_; rintro e w3 ⟨rfl, hb3⟩; have HB3 := Lib.hid hb3; clear hb3))
    go_ret2
    refine ⟨none, 0, 0, by rw [HR.out.2]; rfl, by rw [HR.out.1]; rfl, by rw [HR.out.1]; exact ⟨rfl, fun h => by omega⟩, (Bel.rf.al _).tr (HB2.out.tr HB3.out)⟩
  · rcases clone_part A n c L (by omega) i m hge w hv with ⟨_, _, _, hm, _⟩ | ⟨g, rfl, ⟨_, hm, _⟩ | ⟨hci, hcl⟩⟩
    · omega
    · omega
    have WY : Hid (∀ W, _) := fun W => within_yes st sp (some ⟨g, 0, none⟩) n c i m (by omega) hge W
    have CL := Lib.hid hcl
    have CO : Hid (∀ W A' c', Zi W A' m ((L.drop i).take m) → _) := fun W A' c' hW => contains_any A' c' m ((L.drop i).take m) 1073741824 (!good L m i) (by omega) (good_part (by omega)) W hW
    have hnc := hv.2.1
    have s1 : (i : Int) ≤ (c : Int) := by omega
    have s2 : (i : Int) + (m : Int) ≤ (c : Int) := by omega
    have s3 : ((i : Int) + (m : Int)).toNat - i = m := by omega
    have s4 : (i : Int) ≤ (i : Int) + (m : Int) := by omega
    have HLE : Hid (i + m ≤ L.length) := by show _ ≤ _; omega
    obtain ⟨gd, hgd⟩ : ∃ b, good L m i = b := ⟨_, rfl⟩
    rw [hgd] at CO
    cases gd
    · have HR : Hid (wz L i m = [] ∧ we L i m = 13) := ⟨by unfold wz; rw [hgd]; rfl, by unfold we; rw [hgd, if_neg (by simp), if_pos HLE.out]⟩
      clear hv hl hgd h hs hge hcl hnc
      go_enter Tryz.func17, Tryz.ntmps17
      go_wp2_with (first
        | (go_at_call 24; refine (VA.out _ (HV.out.1.bel (Bel.rf.al _))).mono ?_; rintro e w2 ⟨rfl, hb2⟩; have B1 := HK.out.bel hb2; have d0 := B1.cell 0; have d1 := B1.cell 1; have d2 := B1.cell 2; have dl := B1.lt; have HB1 := Lib.hid B1; clear B1; have HB2 := Lib.hid ((Bel.rf.al _).tr hb2); clear hb2)
        | (go_at_call 36; refine (WY.out _).mono ?_; rintro e w3 ⟨rfl, hb3⟩; have B1 := HB1.out.bel hb3; have e0 := B1.cell 0; have e1 := B1.cell 1; have e2 := B1.cell 2; have HB3 := Lib.hid (HB2.out.tr hb3); clear hb3 B1)
        | (go_at_call 37; refine (CL.out _ HB3.out _).mono ?_; rintro e w4 ⟨A4, c4, rfl, hv4, hv4f, hb4⟩; clear hv4f; have HV4 := Lib.hid hv4; have HB4 := Lib.hid (HB3.out.tr hb4); clear hv4 hb4)
        | (go_at_call 38; refine (CO.out _ _ _ HV4.out.1).mono ?_; rintro e w5 ⟨rfl, hb5⟩; have HB5 := Lib.hid (HB4.out.tr hb5); clear hb5))
      go_ret2
      refine ⟨none, 0, 0, by rw [HR.out.2]; rfl, by rw [HR.out.1]; rfl, by rw [HR.out.1]; exact ⟨rfl, fun h => by omega⟩, HB5.out⟩
    · have HR : Hid (wz L i m = (L.drop i).take m ∧ we L i m = 0) := ⟨by unfold wz; rw [hgd]; rfl, by unfold we; rw [hgd]; rfl⟩
      clear hv hl hgd h hs hge hcl hnc
      go_enter Tryz.func17, Tryz.ntmps17
      go_wp2_with (first
        | (go_at_call 24; refine (VA.out _ (HV.out.1.bel (Bel.rf.al _))).mono ?_; rintro e w2 ⟨rfl, hb2⟩; have B1 := HK.out.bel hb2; have d0 := B1.cell 0; have d1 := B1.cell 1; have d2 := B1.cell 2; have dl := B1.lt; have HB1 := Lib.hid B1; clear B1; have HB2 := Lib.hid ((Bel.rf.al _).tr hb2); clear hb2)
        | (go_at_call 36; refine (WY.out _).mono ?_; rintro e w3 ⟨rfl, hb3⟩; have B1 := HB1.out.bel hb3; have e0 := B1.cell 0; have e1 := B1.cell 1; have e2 := B1.cell 2; have HB3 := Lib.hid (HB2.out.tr hb3); clear hb3 B1)
        | (go_at_call 37; refine (CL.out _ HB3.out _).mono ?_; rintro e w4 ⟨A4, c4, rfl, hv4, hv4f, hb4⟩; clear hv4f; have HV4 := Lib.hid hv4; have HB4 := Lib.hid (HB3.out.tr hb4); clear hv4 hb4)
        | (go_at_call 38; refine (CO.out _ _ _ HV4.out.1).mono ?_; rintro e w5 ⟨rfl, hb5⟩; have HB5 := Lib.hid (HB4.out.tr hb5); have HV5 := Lib.hid (HV4.out.1.bel hb5); clear hb5))
      go_ret2
      refine ⟨A4, m, c4, by rw [HR.out.2]; rfl, by rw [HR.out.1, part_len HLE.out], by rw [HR.out.1]; exact HV5.out, HB5.out⟩
theorem kp_far {w : World} {p q : Addr} {v : Value} (h : w.cell? p = some v) (hn : p.block ≠ q.block) (u : Value) : (w.setCell q u).cell? p = some v := (World.cell?_setCell_other _ _ _ _ (fun e => hn (congrArg Addr.block e).symm)).trans h
def SomeCut (st sp : Int) (k : Nat) (Z : List Int) (w : World) (e : Ending) (w' : World) : Prop := ∃ A c, e = .returned (.tuple #[.agg #[.int .i64 st, .int .i64 sp, .slice A k c], .int .i64 0]) ∧ Vs w' A k c Z ∧ Bel w w'
end Go.Proofs.YtnjojdmmalmhaaaGreatDoor.Se
namespace Go.Proofs.YtnjojdmmalmhaaaGreatDoor.Se
open Go.ChangeShapes Go.WideShapes Go.RowKit Wo Sr Wi
set_option linter.unusedVariables false
def stz (L : List Int) (m : Nat) : List Int := (sts L m).map Int.ofNat
theorem stz_len (L : List Int) (m : Nat) : (stz L m).length = (sts L m).length := by simp [stz]
theorem stz_at {L : List Int} {m i : Nat} (h : i < (sts L m).length) : (stz L m).getD i 0 = ((sts L m).getD i 0 : Nat) := by
  simp [stz, List.getD_eq_getElem?_getD, h]
def SomeStarts (L : List Int) (m : Nat) (w : World) (e : Ending) (w' : World) : Prop := ∃ (A : Option Addr) (k c : Nat), e = .returned (.slice A k c) ∧ k = (sts L m).length ∧ Zi w' A k (stz L m) ∧ Bel w w'
theorem starts_c (st sp : Int) (A : Option Addr) (n c m : Nat) (L : List Int) (h : Sb st sp n) (hs : Sv L) (m1 : 1 ≤ m) (m2 : m ≤ 300) (w : World) (hz : Zi w A n L) :
    Calls Tryz.prog 10 #[.agg #[.int .i64 st, .int .i64 sp, .slice A n c], .int .i64 (m : Int)] w (SomeStarts L m w) := by
  refine (callsIn_wide.1 (starts_in st sp A n c m L h hs m1 m2 w hz)).mono ?_
  rintro e w' ⟨v, rfl, hr, hb⟩
  obtain ⟨A', c', rfl, hz', _⟩ := row_zi hr (by simp)
  exact ⟨A', _, c', rfl, rfl, hz', hb⟩
theorem sts_ex : sts exL 2 = [0, 3, 4] := by decide
theorem we_ex : we exL 1 2 = 13 := by decide
theorem wz_ex : wz exL 1 2 = [] := by decide
theorem sb_ex : Sb 100 10 6 := by unfold Sb; decide
def SomeMiss (w : World) (e : Ending) (w' : World) : Prop := ∃ (A : Option Addr) (k c : Nat), e = .returned (.tuple #[.slice A k c, .int .i64 13]) ∧ Bel w w'
theorem win_ex (g : Nat) (W : World) (h : Vs W (some ⟨g, 0, none⟩) 6 6 exL) : Calls Tryz.prog 17 #[.agg #[.int .i64 100, .int .i64 10, .slice (some ⟨g, 0, none⟩) 6 6], .int .i64 1, .int .i64 2] W (SomeMiss W) :=
  (window_any 100 10 _ 6 6 exL sb_ex exL_sv 1 2 (by decide) (by decide) (by decide) W h).mono fun e w' ⟨A, k, c, he, _, _, hb⟩ => ⟨A, k, c, by rw [he, we_ex], hb⟩
theorem starts_ex (g : Nat) (W : World) (h : Vs W (some ⟨g, 0, none⟩) 6 6 exL) : Calls Tryz.prog 10 #[.agg #[.int .i64 100, .int .i64 10, .slice (some ⟨g, 0, none⟩) 6 6], .int .i64 2] W (SomeStarts exL 2 W) :=
  starts_c 100 10 _ 6 6 2 exL sb_ex exL_sv (by decide) (by decide) W h.1
end Go.Proofs.YtnjojdmmalmhaaaGreatDoor.Se
namespace Go.Proofs.YtnjojdmmalmhaaaGreatDoor.Se
open Go.RowKit Go.Shelf Wo Sr Wi
set_option linter.unusedVariables false
attribute [local go_sem] Oper.semAt_some
/-- runs, flat -/
def rr (l : List (Nat × Nat)) : List Value := l.flatMap fun p => [.int .i64 (p.1 : Int), .int .i64 (p.2 : Int)]
theorem rr_cons (p : Nat × Nat) (l : List (Nat × Nat)) : rr (p :: l) = .int .i64 (p.1 : Int) :: .int .i64 (p.2 : Int) :: rr l := rfl
theorem rr_app (a b : List (Nat × Nat)) : rr (a ++ b) = rr a ++ rr b := by simp [rr]
def fr (l : List (Nat × Nat)) (i : Nat) : Nat := (l.getD i (0, 0)).1
def ct (l : List (Nat × Nat)) (i : Nat) : Nat := (l.getD i (0, 0)).2
theorem rr_at (l : List (Nat × Nat)) (i : Nat) (h : i < l.length) : (rr l)[i * 2]? = some (.int .i64 (fr l i : Int)) ∧ (rr l)[i * 2 + 1]? = some (.int .i64 (ct l i : Int)) := by
  induction l generalizing i with
  | nil => simp at h
  | cons p l ih =>
    rcases i with _ | i
    · exact ⟨rfl, rfl⟩
    · have := ih i (by simpa using h)
      rw [rr_cons, show (i + 1) * 2 = i * 2 + 1 + 1 by omega]
      simpa [fr, ct] using this
def Zq (w : World) (A : Option Addr) (n : Nat) (l : List (Nat × Nat)) : Prop := l.length = n ∧ (0 < n → ∃ g : Nat, A = some ⟨g, 0, none⟩ ∧ g < w.heap.size ∧ ∀ j, j < n → w.cell? ⟨g, j * 2, none⟩ = some (.int .i64 (fr l j : Int)) ∧ w.cell? ⟨g, j * 2 + 1, none⟩ = some (.int .i64 (ct l j : Int)))
theorem Zq.bel {w w' : World} {A : Option Addr} {n : Nat} {l : List (Nat × Nat)} (h : Zq w A n l) (hb : Bel w w') : Zq w' A n l :=
  ⟨h.1, fun hn => by
    obtain ⟨ad, e, hx, hc⟩ := h.2 hn
    exact ⟨ad, e, by have := hb.size; omega, fun j hj => ⟨hb.kp (hc j hj).1, hb.kp (hc j hj).2⟩⟩⟩
theorem own_zq {w : World} {base k : Nat} {v : Value} {l : List (Nat × Nat)} (hr : w.ownsRow base 69 2 v k (rr l)) (hk : l.length = k) : ∃ A c, v = .slice A k c ∧ Zq w A k l := by
  rcases hr.2 with ⟨rfl, rfl⟩ | ⟨g, cap, cur, rfl, hb, hg, rest⟩
  · exact ⟨none, 0, rfl, hk, fun h => by omega⟩
  · refine ⟨_, cap, rfl, hk, fun hn => ⟨_, rfl, (hr.lt g rfl).2, fun j hj => ?_⟩⟩
    have e := rr_at l j (by omega)
    have h1 := hr.cells (g := g) rfl _ _ e.1
    have h2 := hr.cells (g := g) rfl _ _ e.2
    rw [add_row] at h1 h2
    exact ⟨h1, h2⟩
theorem info_run : (Tryz.prog.info? 69).map (fun i => (i.zero, i.size, i.bytes)) = some (some (.agg #[.int .i64 0, .int .i64 0]), 2, 16) := by kernel_rfl
set_option maxRecDepth 100000 in
set_option maxHeartbeats 4000000 in
theorem aseq_in (Bx : Nat) (A : Option Addr) (c n : Nat) (L : List Int) (hn : n ≤ 2000) (w : World) (hbx : w.cell? ⟨Bx, 0, none⟩ = some (.slice A n c)) (hz : Zi w A n L) :
    CallsIn Fence.wide 3 Tryz.prog 69 #[.slice none 0 0, .func (.func 52) #[] #[.pointer (some ⟨Bx, 0, none⟩)]] w fun e W' => ∃ v, e = .returned v ∧ W'.ownsRow w.heap.size 69 2 v (rns L 0 0).length (rr (rns L 0 0)) ∧ Below w.heap.size w W' := by
  obtain ⟨i0, hi, hz0, hz1, hz2⟩ := info_parts info_run
  have HI := Lib.hid (And.intro hi (And.intro hz0 (And.intro hz1 hz2)))
  have hxl := World.block_lt_of_cell? w _ hbx
  have hne : 0 < n → ∀ ad, A = some ad → ad.block ≠ w.heap.size := fun h ad e => by have := zi_lt hz ad h e; omega
  clear hi hz0 hz1 hz2
  refine callsIn_of_wp_marks Tryz.func69 rfl trivial ?_ rfl
  simp only [Tryz.ntmps69, List.size_toArray, List.length_cons, List.length_nil, Nat.reduceAdd, Nat.reduceSub, Array.replicate_succ, Array.replicate_zero, List.push_toArray, List.append_toArray, List.nil_append, List.cons_append]
  gi_wp2
  have bO := Boxed.new w 66 (.slice none 0 0)
  refine wpIn_rangeFunc_ownH rfl (by omega) (gf := 52) (lb := #[.pointer (some ⟨Bx, 0, none⟩)]) rfl trivial (enters_of Tryz.func52 (by kernel_rfl) rfl)
    (runs_stops 2 (by omega) w.heap.size Bx A c n L (by omega) _ (by simp; exact Nat.lt_succ_of_lt hxl) (by have : Bx < w.heap.size := hxl; omega) (kp_al hbx _) (hz.bel (Bel.rf.al _)) hne) kq_t (fun W l o o' hl h2 h3 h4 => kq_b W l o o' hl h2) (Below.refl _ _) (fun _ => rfl)
    (fun pre W => ((∃ v, Boxed W w.heap.size 66 v ∧ W.ownsRow (w.heap.size + 1) 69 2 v pre.length (rr (rv pre)) ∧ True) ∧ w.heap.size + 1 ≤ W.heap.size) ∧ Below w.heap.size w W)
    (fun _ _ _ => False)
    (OwnFrom.and (OwnFrom.and (Own.from (holdsRow_own (w.heap.size + 1) w.heap.size 66 69 2 (fun pre => pre.length) (fun pre => rr (rv pre)) (fun _ _ => True)) _) (fun s A B row h hg hr => Nat.le_trans h hg.size)) (ownFrom_below (Nat.le_refl _) (by simp)))
    (fun _ _ _ _ _ hs _ _ => hs)
    ⟨⟨⟨_, bO, World.ownsRow_nil _ _ _ _, trivial⟩, by simp⟩, (Below.refl _ w).alloc (Nat.le_refl _) _⟩
    (fun x a' W => ∃ By, w.heap.size + 1 ≤ By ∧ Bk W By 69 #[.int .i64 (x.1.1 : Int), .int .i64 (x.1.2 : Int)] ∧ a' = { tmps := #[.slice none 0 0, .func (.func 52) #[] #[.pointer (some ⟨Bx, 0, none⟩)], .pointer (some ⟨w.heap.size, 0, none⟩), undef, .slice none 0 0, .pointer (some ⟨By, 0, none⟩), .func (.func 52) #[] #[.pointer (some ⟨Bx, 0, none⟩)], .agg #[.int .i64 (x.1.1 : Int), .int .i64 (x.1.2 : Int)], undef, undef, undef, undef, undef], defers := [] })
    (fun x a' _ A B row hs hg hr => by obtain ⟨By, q1, q2, q3⟩ := hs; exact ⟨By, q1, bk_own q2 hg hr, q3⟩)
    ?assign ?body ?done ?stop
  case assign =>
    rintro l pre x W K ⟨⟨⟨v, hv, hrow, _⟩, hsz2⟩, hB⟩ hK
    have hvl := hv.lt
    unfold encr
    gi_wp2
    have hbw : Below (w.heap.size + 1) W (W.alloc (.cells #[.int .i64 (x.1.1 : Int), .int .i64 (x.1.2 : Int)] 69)) := (Below.refl _ W).alloc hsz2 _
    exact hK _ _ ((KeepsOthers.alloc _ _).from _) (by have := kq_bl (Bo := w.heap.size) hbw hsz2; simpa using this) ⟨⟨⟨v, hv.alloc _, hrow.alloc _, trivial⟩, by simp; omega⟩, hB.alloc hB.size _⟩ ⟨W.heap.size, hsz2, Bk.nw _ _ _, rfl⟩
  case body =>
    rintro l pre x a' W hl ⟨r, hr⟩ ⟨⟨⟨v, hv, hrow, _⟩, hsz2⟩, hB⟩ ⟨By, hBy, hkx, rfl⟩ hlt
    have hc := hv.cell
    obtain ⟨x1, hx1⟩ : ∃ y, x.1.1 = y := ⟨_, rfl⟩
    obtain ⟨x2, hx2⟩ : ∃ y, x.1.2 = y := ⟨_, rfl⟩
    rw [hx1, hx2] at hkx ⊢
    have hcx : W.cell? ⟨By, 0, none⟩ = some (.int .i64 (x1 : Int)) := hkx.cell 0
    have hcy : W.cell? ⟨By, 1, none⟩ = some (.int .i64 (x2 : Int)) := hkx.cell 1
    have hyl := hkx.lt
    have hvl := hv.lt
    have HX := Lib.hid (And.intro hx1 hx2)
    have HV := Lib.hid (And.intro hv (And.intro hrow (And.intro hsz2 hB)))
    clear hx1 hx2 hv hrow hsz2 hB hkx hr
    gi_wp2_with (gi_at_builtin; refine wpListIn_append_own _ rfl _ _ 66 rfl (w.heap.size + 1) 69 i0 (.agg #[.int .i64 0, .int .i64 0]) 2 16 Tryz.underlying66 HI.out.1 HI.out.2.1 HI.out.2.2.1 HI.out.2.2.2 rfl (by decide) _ _ _ rfl (HV.out.2.1.alloc _) ⟨W.heap.size, 0, none⟩ 1 1 [.int .i64 (x1 : Int), .int .i64 (x2 : Int)] rfl rfl (World.news_of_block (cs := #[.int .i64 (x1 : Int), .int .i64 (x2 : Int)]) (t := 69) (fr := (0, 0)) (heap_alloc_new _ _)) (by simp [Value.oneCell']) (by unfold maxLen; omega) (by omega) (by have := HV.out.2.2.1; simp; omega) ?_; intro v2 w1 hown' hgrow _; obtain ⟨g', cap', rfl⟩ := ownsRow_succ hown'; obtain ⟨hv1, hv2, hr2, hk2, hb2⟩ := HV.out.1.appended (by decide) (own_lo HV.out.2.1 (by omega)) HV.out.2.2.2.size (Nat.le_refl _) (own_lo hown' (by omega)) hgrow; have hc1 := hv1.cell; have hf1 := hv1.frozen; have HG := Lib.hid (And.intro hown' (And.intro hgrow (And.intro hv1 (And.intro hv2 (And.intro hk2 hb2))))); clear hown' hgrow hv1 hv2 hr2 hk2 hb2)
    obtain ⟨hv, hrow, hsz2, hB⟩ := HV.out
    obtain ⟨hown', hgrow, hv1, hv2, hk2, hb2⟩ := HG.out
    have hne := hgrow.block
    have kc : ∀ b, b < w.heap.size + 1 → b ≠ w.heap.size → (w1.setCell ⟨w.heap.size, 0, none⟩ (.slice (some ⟨g', 0, none⟩) (pre.length + 1) cap')).heap[b]? = W.heap[b]? := fun b hb0 hb1 => by
      refine Eq.trans (Below.heap_setCell _ _ _ b hb1) ?_
      refine (hne b (by rw [World.size_alloc]; omega) (own_ne hrow hb0)).trans ?_
      exact Below.heap_alloc _ _ _ (by omega)
    have hszw : w.heap.size + 1 ≤ (w1.setCell ⟨w.heap.size, 0, none⟩ (.slice (some ⟨g', 0, none⟩) (pre.length + 1) cap')).heap.size := by
      have := hgrow.size
      simp [World.setCell] at *
      omega
    refine ⟨hk2.from _, ⟨fun b h1 h2 => by simp at h1; exact kc b h1 h2, by simpa using hszw⟩, ⟨⟨_, hv2, ?_, trivial⟩, hszw⟩, hB.trans hb2⟩
    have e1 : (pre ++ [x]).length = pre.length + 1 := by simp
    have e2 : rr (rv (pre ++ [x])) = rr (rv pre) ++ [.int .i64 (x1 : Int), .int .i64 (x2 : Int)] := by
      rw [rv_snoc, rr_app, ← HX.out.1, ← HX.out.2]; rfl
    rw [e1, e2]
    exact hown'.kept (grownBy_setCell' w1 _ _) (.inr (hv1.not_row (by decide) hown').symm)
  case done =>
    rintro D ys W hD hys ⟨⟨⟨v, hv, hrow, _⟩, hsz2⟩, hB⟩ hK
    have hc := hv.cell
    have hlen : ys.length = (rns L 0 0).length := by rw [← hys]; simp [rv]
    rw [hys, hlen] at hrow
    clear hys hlen
    have HR := Lib.hid hrow
    have HB := Lib.hid hB
    clear hrow hB
    gi_wp2
    refine ⟨by simp, .inl ⟨_, _, rfl, run_takeDeferred hK, ?_⟩⟩
    exact ⟨_, results_tmp rfl _ _ _, _, rfl, own_lo (ownsRow_putObj HR.out _ hK rfl) (by omega), HB.out.trans (belowK_b (w := w) (Nat.le_refl _) W D _ _ (by simp at hD; omega) hK rfl rfl)⟩
  case stop =>
    rintro D c pre W _ _ h _
    exact h.elim
end Go.Proofs.YtnjojdmmalmhaaaGreatDoor.Se
namespace Go.Proofs.YtnjojdmmalmhaaaGreatDoor.Se
open Go.ChangeShapes Go.WideShapes Go.RowKit Wo Sr Wi
set_option linter.unusedVariables false
def SomeRuns (L : List Int) (w : World) (e : Ending) (w' : World) : Prop := ∃ (A : Option Addr) (k c : Nat), e = .returned (.slice A k c) ∧ k = (rns L 0 0).length ∧ Zq w' A k (rns L 0 0) ∧ Bel w w'
theorem aseq_c (Bx : Nat) (A : Option Addr) (c n : Nat) (L : List Int) (hn : n ≤ 2000) (w : World) (hbx : w.cell? ⟨Bx, 0, none⟩ = some (.slice A n c)) (hz : Zi w A n L) :
    Calls Tryz.prog 69 #[.slice none 0 0, .func (.func 52) #[] #[.pointer (some ⟨Bx, 0, none⟩)]] w (SomeRuns L w) := by
  refine (callsIn_wide.1 (aseq_in Bx A c n L hn w hbx hz)).mono ?_
  rintro e w' ⟨v, rfl, hr, hb⟩
  obtain ⟨A', c', rfl, hz'⟩ := own_zq hr rfl
  exact ⟨A', _, c', rfl, rfl, hz', hb⟩
theorem collect_c (Bx : Nat) (A : Option Addr) (c n : Nat) (L : List Int) (hn : n ≤ 2000) (w : World) (hbx : w.cell? ⟨Bx, 0, none⟩ = some (.slice A n c)) (hz : Zi w A n L) :
    Calls Tryz.prog 44 #[.func (.func 52) #[] #[.pointer (some ⟨Bx, 0, none⟩)]] w (SomeRuns L w) := by
  have AS := Lib.hid (aseq_c Bx A c n L hn w hbx hz)
  clear hbx hz
  go_enter Tryz.func44, Tryz.ntmps44
  go_wp2_with fail
  go_at_call 69
  refine AS.out.mono ?_
  rintro e w2 ⟨A', k', c', rfl, hk', hz', hb'⟩
  have HX := Lib.hid (And.intro hk' (And.intro hz' hb'))
  clear hk' hz' hb'
  go_wp2
  go_ret
  exact ⟨A', k', c', rfl, HX.out.1, HX.out.2.1, HX.out.2.2⟩
theorem runs_c (st sp : Int) (A : Option Addr) (n c : Nat) (L : List Int) (h : Sb st sp n) (hs : Sv L) (w : World) (hz : Zi w A n L) :
    Calls Tryz.prog 25 #[.agg #[.int .i64 st, .int .i64 sp, .slice A n c]] w (SomeRuns L w) := by
  have VA : Hid (∀ W, Zi W A n L → _) := fun W hW => valid_ok st sp A n c L h hs W hW
  have RN : Hid (∀ W, _) := fun W => runs_ok A n c W
  have CC : Hid (∀ Bx W, W.cell? ⟨Bx, 0, none⟩ = some (.slice A n c) → Zi W A n L → _) := fun Bx W h1 h2 => collect_c Bx A c n L h.2.2.2.2 W h1 h2
  have HZ := Lib.hid hz
  have HK := Lib.hid (Bk.nw w 24 #[.int .i64 st, .int .i64 sp, .slice A n c])
  clear hz hs h
  go_enter Tryz.func25, Tryz.ntmps25
  go_wp2_with fail
  go_at_call 24
  refine (VA.out _ (HZ.out.bel (Bel.rf.al _))).mono ?_
  rintro e w2 ⟨rfl, hb2⟩
  have B1 := HK.out.bel hb2
  have d2 := B1.cell 2
  have HB2 : Hid (Bel w w2) := (Bel.rf.al _).tr hb2
  clear B1 hb2
  go_wp2_with fail
  go_at_call 29
  refine (RN.out _).mono ?_
  rintro e w3 ⟨rfl, rfl⟩
  go_wp2_with fail
  go_at_call 44
  refine (CC.out _ _ ((Bk.nw w2 22 #[.slice A n c]).cell 0) (HZ.out.bel (HB2.out.al _))).mono ?_
  rintro e w4 ⟨A', k', c', rfl, hk', hz', hb'⟩
  have HX := Lib.hid (And.intro hk' (And.intro hz' hb'))
  clear hk' hz' hb'
  go_wp2
  go_ret
  exact ⟨A', k', c', rfl, HX.out.1, HX.out.2.1, HB2.out.tr ((Bel.rf.al _).tr HX.out.2.2)⟩
/-- where the run before t ends -/
def ed (l : List (Nat × Nat)) : Nat → Int
  | 0 => -1
  | t + 1 => (fr l t : Int) + (ct l t : Int)
/-- the values of the first t runs -/
def sm (l : List (Nat × Nat)) : Nat → Nat
  | 0 => 0
  | t + 1 => sm l t + ct l t
theorem asc_at {W : List Int} : ∀ (l : List (Nat × Nat)) (e : Int) (t : Nat), Asc W e l → t < l.length → (t = 0 → e < (fr l 0 : Int)) ∧ (∀ u, t = u + 1 → (fr l u : Int) + (ct l u : Int) < (fr l t : Int)) ∧ 1 ≤ ct l t ∧ fr l t + ct l t ≤ W.length ∧ ∀ j, j < ct l t → W.getD (fr l t + j) 1073741824 ≠ 1073741824
  | [], e, t, _, ht => by simp at ht
  | r :: rs, e, 0, h, ht => ⟨fun _ => h.1, fun u hu => by omega, h.2.1, h.2.2.1, h.2.2.2.1⟩
  | r :: rs, e, t + 1, h, ht => by
    have ih := asc_at rs ((r.1 : Int) + r.2) t h.2.2.2.2 (by simpa using ht)
    refine ⟨fun h0 => by omega, fun u hu => ?_, ih.2.2.1, ih.2.2.2.1, ih.2.2.2.2⟩
    have : u = t := by omega
    subst this
    rcases u with _ | u
    · exact ih.1 rfl
    · exact ih.2.1 u rfl
theorem ed_lt {L : List Int} {t : Nat} (ht : t < (rns L 0 0).length) : ed (rns L 0 0) t < (fr (rns L 0 0) t : Int) := by
  have h := asc_at (rns L 0 0) (-1) t (asc_all L) ht
  rcases t with _ | t
  · exact h.1 rfl
  · exact h.2.1 t rfl
theorem sm_all : ∀ l : List (Nat × Nat), sm l l.length = (l.map Prod.snd).sum := by
  have key : ∀ (l : List (Nat × Nat)) (t : Nat), t ≤ l.length → sm l t = ((l.take t).map Prod.snd).sum := by
    intro l t
    induction t with
    | zero => intro _; simp [sm]
    | succ t ih =>
      intro ht
      have e : l.take (t + 1) = l.take t ++ [l.getD t (0, 0)] := by
        rw [List.take_succ_eq_append_getElem (by omega), List.getD_eq_getElem?_getD, List.getElem?_eq_getElem (by omega)]; rfl
      show sm l t + ct l t = _
      rw [ih (by omega), e]
      simp [ct]
  intro l
  have := key l l.length (Nat.le_refl _)
  rwa [List.take_length] at this
theorem sm_cnt (L : List Int) : sm (rns L 0 0) (rns L 0 0).length = cnt L := by
  rw [sm_all, rns_sum]; omega
theorem sm_le (l : List (Nat × Nat)) : ∀ (q t : Nat), t ≤ q → sm l t ≤ sm l q
  | 0, t, h => by have : t = 0 := by omega
                  subst this; exact Nat.le_refl _
  | q + 1, t, h => by
    rcases Nat.lt_or_ge t (q + 1) with h1 | h1
    · have := sm_le l q t (by omega)
      show _ ≤ sm l q + ct l q
      omega
    · have : t = q + 1 := by omega
      subst this; exact Nat.le_refl _
theorem cnt_le (L : List Int) : cnt L ≤ L.length := List.countP_le_length
theorem cnt_take (L : List Int) (t : Nat) (h : t < L.length) : cnt (L.take (t + 1)) = cnt (L.take t) + if L.getD t 1073741824 = 1073741824 then 0 else 1 := by
  have e : L.take (t + 1) = L.take t ++ [L.getD t 1073741824] := by
    rw [List.take_succ_eq_append_getElem h, List.getD_eq_getElem?_getD, List.getElem?_eq_getElem h]; rfl
  rw [e, cnt_app]
  generalize L.getD t 1073741824 = x
  congr 1
  unfold cnt
  split
  · rename_i hh; simp [hh]
  · rename_i hh; simp [hh]
theorem runs_len (L : List Int) : (rns L 0 0).length ≤ L.length := by
  have h : ∀ (l : List (Nat × Nat)), (∀ t, t < l.length → 1 ≤ ct l t) → l.length ≤ sm l l.length := by
    intro l hl
    have : ∀ t, t ≤ l.length → t ≤ sm l t := by
      intro t
      induction t with
      | zero => intro _; exact Nat.zero_le _
      | succ t ih => intro ht; have := ih (by omega); have := hl t (by omega); show _ ≤ sm l t + ct l t; omega
    exact this _ (Nat.le_refl _)
  have h1 := h (rns L 0 0) (fun t ht => (asc_at _ (-1) t (asc_all L) ht).2.2.1)
  rw [sm_cnt] at h1
  exact Nat.le_trans h1 (cnt_le L)
theorem getD_two {L : List Int} {i : Nat} (h : i < L.length) : L.getD i 1073741824 = L.getD i 0 := by
  simp [List.getD_eq_getElem?_getD, List.getElem?_eq_getElem h]
end Go.Proofs.YtnjojdmmalmhaaaGreatDoor.Se
namespace Go.Proofs.YtnjojdmmalmhaaaGreatDoor.Se
open Go.ChangeShapes Go.WideShapes Go.RowKit Wo Sr Wi
set_option linter.unusedVariables false
end Go.Proofs.YtnjojdmmalmhaaaGreatDoor.Se
namespace Go.Proofs.YtnjojdmmalmhaaaGreatDoor.Se
open Go.ChangeShapes Go.WideShapes Go.RowKit Wo Sr Wi
set_option linter.unusedVariables false
def fl (i c : Nat) : List (Nat × Nat) := if 0 < c then [(i - c, c)] else []
def rn0 : List Int → Nat → Nat → List (Nat × Nat)
  | [], _, _ => []
  | v :: vs, i, c => if v = 1073741824 then fl i c ++ rn0 vs (i + 1) 0 else rn0 vs (i + 1) (c + 1)
def tc : List Int → Nat → Nat
  | [], c => c
  | v :: vs, c => if v = 1073741824 then tc vs 0 else tc vs (c + 1)
theorem rns_split : ∀ (vs : List Int) (i c : Nat), rns vs i c = rn0 vs i c ++ fl (i + vs.length) (tc vs c)
  | [], i, c => by by_cases h : 0 < c <;> simp [rns, rn0, fl, tc, h]
  | v :: vs, i, c => by
    have e : i + (v :: vs).length = i + 1 + vs.length := by simp; omega
    rw [e]
    unfold rns rn0 tc
    by_cases h : v = 1073741824
    · simp only [if_pos h]
      rw [rns_split vs (i + 1) 0]
      by_cases h2 : 0 < c
      · simp [fl, h2]
      · simp [fl, h2]
    · simp only [if_neg h]
      rw [rns_split vs (i + 1) (c + 1)]
theorem rn0_snoc (x : Int) : ∀ (vs : List Int) (i c : Nat), rn0 (vs ++ [x]) i c = if x = 1073741824 then rn0 vs i c ++ fl (i + vs.length) (tc vs c) else rn0 vs i c
  | [], i, c => by
    show rn0 [x] i c = _
    unfold rn0
    by_cases h : x = 1073741824 <;> simp [h, rn0, tc]
  | v :: vs, i, c => by
    have e : i + (v :: vs).length = i + 1 + vs.length := by simp; omega
    rw [e, List.cons_append]
    unfold rn0 tc
    by_cases h : v = 1073741824
    · simp only [if_pos h]
      rw [rn0_snoc x vs (i + 1) 0]
      by_cases h2 : x = 1073741824 <;> simp [h2]
    · simp only [if_neg h]
      rw [rn0_snoc x vs (i + 1) (c + 1)]
theorem tc_snoc (x : Int) : ∀ (vs : List Int) (c : Nat), tc (vs ++ [x]) c = if x = 1073741824 then 0 else tc vs c + 1
  | [], c => by
    show tc [x] c = _
    unfold tc
    by_cases h : x = 1073741824 <;> simp [h, tc]
  | v :: vs, c => by
    rw [List.cons_append]
    unfold tc
    by_cases h : v = 1073741824
    · simp only [if_pos h]; exact tc_snoc x vs 0
    · simp only [if_neg h]; exact tc_snoc x vs (c + 1)
theorem tc_le : ∀ (vs : List Int) (c : Nat), tc vs c ≤ c + vs.length
  | [], c => by simp [tc]
  | v :: vs, c => by
    unfold tc
    have h1 := tc_le vs 0
    have h2 := tc_le vs (c + 1)
    split <;> simp <;> omega
/-- the runs of the first k values -/
def Rk (L : List Int) (k : Nat) : List (Nat × Nat) := rns (L.take k) 0 0
theorem tk_next (L : List Int) (k : Nat) (h : k < L.length) : L.take (k + 1) = L.take k ++ [L.getD k 0] := by
  rw [List.take_add_one, List.getD_eq_getElem?_getD, List.getElem?_eq_getElem h]; rfl
theorem Rk_none {L : List Int} {k : Nat} (h : k < L.length) (hx : L.getD k 0 = 1073741824) : Rk L (k + 1) = Rk L k := by
  unfold Rk
  rw [tk_next L k h, rns_split, rn0_snoc, tc_snoc, if_pos hx, if_pos hx, rns_split (L.take k)]
  simp [fl]
theorem Rk_some {L : List Int} {k : Nat} (h : k < L.length) (hx : L.getD k 0 ≠ 1073741824) : Rk L (k + 1) = rn0 (L.take k) 0 0 ++ [(k - tc (L.take k) 0, tc (L.take k) 0 + 1)] := by
  have hl : (L.take k).length = k := by simp; omega
  unfold Rk
  rw [tk_next L k h, rns_split, rn0_snoc, tc_snoc, if_neg hx, if_neg hx]
  simp only [fl, List.length_append, hl, List.length_cons, List.length_nil]
  rw [if_pos (by omega)]
  rw [show 0 + (k + (0 + 1)) - (tc (L.take k) 0 + 1) = k - tc (L.take k) 0 by omega]
theorem tc_at {L : List Int} {j : Nat} (h : j < L.length) : tc (L.take (j + 1)) 0 = if L.getD j 0 = 1073741824 then 0 else tc (L.take j) 0 + 1 := by
  rw [tk_next L j h, tc_snoc]
theorem Rk_new {L : List Int} {k : Nat} (h : k < L.length) (hx : L.getD k 0 ≠ 1073741824) (h0 : k = 0 ∨ ∃ j, j + 1 = k ∧ L.getD j 0 = 1073741824) : Rk L (k + 1) = Rk L k ++ [(k, 1)] := by
  have ht : tc (L.take k) 0 = 0 := by
    rcases h0 with rfl | ⟨j, rfl, hj⟩
    · rfl
    · rw [tc_at (by omega), if_pos hj]
  rw [Rk_some h hx, ht]
  have : Rk L k = rn0 (L.take k) 0 0 := by
    unfold Rk
    rw [rns_split, ht]
    simp [fl]
  rw [this]
  rfl
theorem Rk_more {L : List Int} {k j : Nat} (h : k < L.length) (hx : L.getD k 0 ≠ 1073741824) (hj : j + 1 = k) (hy : L.getD j 0 ≠ 1073741824) : ∃ (P : List (Nat × Nat)) (f c : Nat), Rk L k = P ++ [(f, c)] ∧ Rk L (k + 1) = P ++ [(f, c + 1)] ∧ c ≤ k := by
  have hl : (L.take k).length = k := by simp; omega
  have ht : 0 < tc (L.take k) 0 := by
    subst hj
    rw [tc_at (by omega), if_neg hy]; omega
  have hle := tc_le (L.take k) 0
  refine ⟨rn0 (L.take k) 0 0, k - tc (L.take k) 0, tc (L.take k) 0, ?_, Rk_some h hx, by omega⟩
  unfold Rk
  rw [rns_split, hl]
  unfold fl
  rw [if_pos ht, show 0 + k = k by omega]
theorem rr_len (l : List (Nat × Nat)) : (rr l).length = l.length * 2 := by
  induction l with
  | nil => rfl
  | cons p l ih => rw [rr_cons, List.length_cons, List.length_cons, ih, List.length_cons]; omega
theorem Rk_len (L : List Int) (k : Nat) : (Rk L k).length ≤ k := by
  have := runs_len (L.take k)
  have h2 : (L.take k).length ≤ k := by simp; omega
  unfold Rk; omega
/-- the last pair's second half set -/
theorem own_last {w : World} {base h n c p f q : Nat} {P : List (Nat × Nat)} {e : TypeId} (hown : w.ownsRow base e 2 (.slice (some ⟨h, 0, none⟩) n c) n (rr (P ++ [(f, q)]))) (hp : P.length = p) (hn : n = p + 1) (q' : Nat) : (w.setCell ⟨h, p * 2 + 1, none⟩ (.int .i64 (q' : Int))).ownsRow base e 2 (.slice (some ⟨h, 0, none⟩) n c) n (rr (P ++ [(f, q')])) := by
  refine ⟨by have := hown.1; simp only [rr_len, List.length_append] at *; exact this, ?_⟩
  rcases hown.2 with ⟨h0, _⟩ | ⟨g, cap, cur, e1, hb, hg, h1, h2, h3, h4⟩
  · cases h0
  · injection e1 with e1 e2 e3
    injection e1 with e1
    cases e1
    subst e3
    refine .inr ⟨h, c, _, rfl, hb, Bk.st (t := e) hg (p * 2 + 1) _, h1, h2, by simpa using h3, ?_⟩
    rw [Array.toList_setIfInBounds, List.take_set, h4]
    have e5 : rr (P ++ [(f, q)]) = rr P ++ [.int .i64 (f : Int), .int .i64 (q : Int)] := by rw [rr_app]; rfl
    have e6 : rr (P ++ [(f, q')]) = rr P ++ [.int .i64 (f : Int), .int .i64 (q' : Int)] := by rw [rr_app]; rfl
    rw [e5, e6, List.set_append_right _ _ (by rw [rr_len]; omega), rr_len, hp, show p * 2 + 1 - p * 2 = 1 by omega]
    rfl
theorem own_fz {w : World} {base h n c size : Nat} {xs : List Value} {e : TypeId} (hown : w.ownsRow base e size (.slice (some ⟨h, 0, none⟩) n c) n xs) (t : Nat) : w.frozen? ⟨h, t, none⟩ = false := by
  rcases hown.2 with ⟨h0, _⟩ | ⟨g, cap, cur, e1, hb, hg, _⟩
  · cases h0
  · injection e1 with e1 e2 e3
    injection e1 with e1
    cases e1
    exact Bk.fr (t := e) hg t
theorem own_form {w : World} {base n : Nat} {v : Value} {xs : List Value} {e : TypeId} {size : Nat} (h : w.ownsRow base e size v n xs) (hn : 0 < n) : ∃ g c, v = .slice (some ⟨g, 0, none⟩) n c ∧ n ≤ c ∧ base ≤ g := by
  rcases h.2 with ⟨_, h0⟩ | ⟨g, cap, cur, hv, hb, hg, h1, _⟩
  · omega
  · exact ⟨g, cap, hv, h1, hb⟩
theorem list_aprn (w : World) {ops : Array Oper} {rest : List Oper} {o : Oper} {a : Act} {Q : Exit → Act → World → Prop} (hgd : o.guard = none) (s x : Operand)
    (ho : o.op = .call { callee := .builtin .append, args := #[s, x], argTypes := #[66, 66] })
    (base : Nat) (v : Value) (n : Nat) (l : List (Nat × Nat)) (hs : a.eval s = v) (hown : w.ownsRow base 69 2 v n (rr l)) (g c : Nat) (p : Nat × Nat) (hx : a.eval x = .slice (some ⟨g, 0, none⟩) 1 c)
    (hM : Bk w g 69 #[.int .i64 (p.1 : Int), .int .i64 (p.2 : Int)]) (hn : n ≤ 100000) (hbase : base ≤ w.heap.size)
    (h : ∀ v' w', w'.ownsRow base 69 2 v' (n + 1) (rr (l ++ [p])) → w.grownBy w' v.ownBlock → (v'.ownBlock = v.ownBlock ∨ v'.ownBlock = some w.heap.size) → wpList Tryz.prog ops Q rest (a.put o.dst v') w') : wpList Tryz.prog ops Q (o :: rest) a w :=
  wpList_plain hgd fun _ hK => by
    obtain ⟨i0, hi0, hz0, hz1, hz2⟩ := info_parts info_run
    obtain ⟨v', w', hr, h2, h3, _, h5⟩ := run_append_own_at (P := Tryz.prog) w base 66 o.type 69 i0 (.agg #[.int .i64 0, .int .i64 0]) 2 16 Tryz.underlying66 hi0 hz0 hz1 hz2 (by rfl) (by omega) v n (rr l) hown ⟨g, 0, none⟩ 1 c (rr [p]) (by rfl) (by
      intro j u hu
      rw [add_row, Bk.cell (t := 69) hM j]
      have e : rr [p] = [.int .i64 (p.1 : Int), .int .i64 (p.2 : Int)] := rfl
      rw [e] at hu
      simpa using hu) (by intro u hu; simp [rr] at hu; rcases hu with rfl | rfl <;> rfl) (by unfold maxLen; omega) (by omega) hbase
    unfold Oper.wp execOp
    simp only [ho, resolve, invoke, builtin, Sem.run_bind, Sem.run_pure, Result.andThen_ok, List.map_toArray, List.map_cons, List.map_nil, hs, hx, hr]
    exact hK _ _ (h v' w' (by rw [rr_app]; exact h2) h3 h5)
end Go.Proofs.YtnjojdmmalmhaaaGreatDoor.Se
namespace Go.Proofs.YtnjojdmmalmhaaaGreatDoor.Se
open Go.ChangeShapes Go.WideShapes Go.RowKit Wo Sr Wi
set_option linter.unusedVariables false
end Go.Proofs.YtnjojdmmalmhaaaGreatDoor.Se
namespace Go.Proofs.YtnjojdmmalmhaaaGreatDoor.Se
open Go.ChangeShapes Go.WideShapes Go.RowKit Wo Sr Wi Sg By Cd
set_option linter.unusedVariables false
def ckt (p : Nat × Nat) (t : Nat) : List (Nat × Nat) := (List.range t).map fun t => (p.1 + 64 * t, min 64 (p.2 - 64 * t))
def ck (p : Nat × Nat) : List (Nat × Nat) := ckt p ((p.2 + 63) / 64)
theorem ckt_next (p : Nat × Nat) (t : Nat) : ckt p (t + 1) = ckt p t ++ [(p.1 + 64 * t, min 64 (p.2 - 64 * t))] := by simp [ckt, List.range_succ]
def pre (R : List (Nat × Nat)) (j : Nat) : List (Nat × Nat) := (R.take j).flatMap ck
theorem pre_next (R : List (Nat × Nat)) (j : Nat) (h : j < R.length) : pre R (j + 1) = pre R j ++ ck (fr R j, ct R j) := by
  unfold pre fr ct
  rw [List.take_add_one, List.flatMap_append, List.getD_eq_getElem?_getD, List.getElem?_eq_getElem h]
  simp
def cks (L : List Int) : List (Nat × Nat) := (rns L 0 0).flatMap ck
theorem pre_all (R : List (Nat × Nat)) : pre R R.length = R.flatMap ck := by unfold pre; rw [List.take_length]
def sgl (l : List (Nat × Value)) : List Value := l.flatMap fun p => [.int .i64 (p.1 : Int), p.2]
theorem sgl_cons (p : Nat × Value) (l : List (Nat × Value)) : sgl (p :: l) = .int .i64 (p.1 : Int) :: p.2 :: sgl l := rfl
theorem sgl_app (a b : List (Nat × Value)) : sgl (a ++ b) = sgl a ++ sgl b := by simp [sgl]
theorem sgl_at (l : List (Nat × Value)) (i : Nat) (h : i < l.length) : (sgl l)[i * 2]? = some (.int .i64 ((l.getD i (0, undef)).1 : Int)) ∧ (sgl l)[i * 2 + 1]? = some (l.getD i (0, undef)).2 := by
  induction l generalizing i with
  | nil => simp at h
  | cons p l ih =>
    rcases i with _ | i
    · exact ⟨rfl, rfl⟩
    · have := ih i (by simpa using h)
      rw [sgl_cons, show (i + 1) * 2 = i * 2 + 1 + 1 by omega]
      simpa using this
/-- a stored segment -/
def Sok (w : World) (L : List Int) (p : Nat × Nat) (u : Nat × Value) : Prop := u.1 = p.1 ∧ ∃ N, (seg ((L.drop p.1).take p.2)).length = N ∧ w.ownsRow 0 5 1 u.2 N (bys (seg ((L.drop p.1).take p.2)))
def Srl (w : World) (L : List Int) (cs : List (Nat × Nat)) (us : List (Nat × Value)) : Prop := us.length = cs.length ∧ ∀ j, j < cs.length → Sok w L (cs.getD j (0, 0)) (us.getD j (0, undef))
theorem Sok.bel {w w' : World} {L : List Int} {p : Nat × Nat} {u : Nat × Value} (h : Sok w L p u) (hb : Bel w w') : Sok w' L p u := by
  obtain ⟨h1, N, h2, h3⟩ := h
  exact ⟨h1, N, h2, own_bel h3 hb⟩
theorem Srl.bel {w w' : World} {L : List Int} {cs : List (Nat × Nat)} {us : List (Nat × Value)} (h : Srl w L cs us) (hb : Bel w w') : Srl w' L cs us := ⟨h.1, fun j hj => (h.2 j hj).bel hb⟩
theorem own_two {w : World} {b1 b2 n1 n2 s1 s2 : Nat} {e1 e2 : TypeId} {v1 v2 : Value} {xs ys : List Value} (h1 : w.ownsRow b1 e1 s1 v1 n1 xs) (h2 : w.ownsRow b2 e2 s2 v2 n2 ys) (hne : e1 ≠ e2) : v1.ownBlock = none ∨ v2.ownBlock ≠ v1.ownBlock := by
  rcases h1.2 with ⟨rfl, _⟩ | ⟨g1, c1, u1, rfl, _, k1, _⟩
  · exact .inl rfl
  · right
    rcases h2.2 with ⟨rfl, _⟩ | ⟨g2, c2, u2, rfl, _, k2, _⟩
    · intro e; cases e
    · intro e
      injection e with e
      subst e
      rw [k1] at k2
      injection k2 with k2
      injection k2 with _ k2
      exact hne k2
theorem Srl.kept {w w' : World} {L : List Int} {cs : List (Nat × Nat)} {us : List (Nat × Value)} {b n : Nat} {v : Value} {xs : List Value} (h : Srl w L cs us) (ho : w.ownsRow b 43 2 v n xs) (hg : w.grownBy w' v.ownBlock) : Srl w' L cs us := ⟨h.1, fun j hj => by
  obtain ⟨h1, N, h2, h3⟩ := h.2 j hj
  exact ⟨h1, N, h2, h3.kept hg ((own_two h3 ho (by decide)).imp id Ne.symm)⟩⟩
theorem Srl.snoc {w : World} {L : List Int} {cs : List (Nat × Nat)} {us : List (Nat × Value)} (h : Srl w L cs us) {p : Nat × Nat} {u : Nat × Value} (hu : Sok w L p u) : Srl w L (cs ++ [p]) (us ++ [u]) := ⟨by simp [h.1], fun j hj => by
  have hl := h.1
  rcases Nat.lt_or_ge j cs.length with hlt | hge
  · rw [List.getD_eq_getElem?_getD, List.getD_eq_getElem?_getD, List.getElem?_append_left hlt, List.getElem?_append_left (by omega)]
    have := h.2 j hlt
    rwa [List.getD_eq_getElem?_getD, List.getD_eq_getElem?_getD] at this
  · have : j = cs.length := by simp at hj; omega
    subst this
    rw [List.getD_eq_getElem?_getD, List.getD_eq_getElem?_getD, List.getElem?_append_right (by omega), List.getElem?_append_right (by omega), hl]
    simpa using hu⟩
theorem info_sg : (Tryz.prog.info? 43).map (fun i => (i.zero, i.size, i.bytes)) = some (some (.agg #[.int .i64 0, .slice none 0 0]), 2, 32) := by kernel_rfl
theorem sgl_len (l : List (Nat × Value)) : (sgl l).length = l.length * 2 := by
  induction l with
  | nil => rfl
  | cons p l ih => rw [sgl_cons, List.length_cons, List.length_cons, ih, List.length_cons]; omega
theorem list_apsg (w : World) {ops : Array Oper} {rest : List Oper} {o : Oper} {a : Act} {Q : Exit → Act → World → Prop} (hgd : o.guard = none) (s x : Operand)
    (ho : o.op = .call { callee := .builtin .append, args := #[s, x], argTypes := #[28, 28] })
    (base : Nat) (v : Value) (n : Nat) (l : List (Nat × Value)) (hs : a.eval s = v) (hown : w.ownsRow base 43 2 v n (sgl l)) (g c : Nat) (p : Nat × Value) (hp : p.2.oneCell' = true) (hx : a.eval x = .slice (some ⟨g, 0, none⟩) 1 c)
    (hM : Bk w g 43 #[.int .i64 (p.1 : Int), p.2]) (hn : n ≤ 100000) (hbase : base ≤ w.heap.size)
    (h : ∀ v' w', w'.ownsRow base 43 2 v' (n + 1) (sgl (l ++ [p])) → w.grownBy w' v.ownBlock → (v'.ownBlock = v.ownBlock ∨ v'.ownBlock = some w.heap.size) → wpList Tryz.prog ops Q rest (a.put o.dst v') w') : wpList Tryz.prog ops Q (o :: rest) a w :=
  wpList_plain hgd fun _ hK => by
    obtain ⟨i0, hi0, hz0, hz1, hz2⟩ := info_parts info_sg
    obtain ⟨v', w', hr, h2, h3, _, h5⟩ := run_append_own_at (P := Tryz.prog) w base 28 o.type 43 i0 (.agg #[.int .i64 0, .slice none 0 0]) 2 32 Tryz.underlying28 hi0 hz0 hz1 hz2 (by rfl) (by omega) v n (sgl l) hown ⟨g, 0, none⟩ 1 c (sgl [p]) (by rfl) (by
      intro j u hu
      rw [By.add_row, Bk.cell (t := 43) hM j]
      have e : sgl [p] = [.int .i64 (p.1 : Int), p.2] := rfl
      rw [e] at hu
      simpa using hu) (by intro u hu; simp [sgl] at hu; rcases hu with rfl | rfl; rfl; exact hp) (by unfold maxLen; omega) (by omega) hbase
    unfold Oper.wp execOp
    simp only [ho, resolve, invoke, builtin, Sem.run_bind, Sem.run_pure, Result.andThen_ok, List.map_toArray, List.map_cons, List.map_nil, hs, hx, hr]
    exact hK _ _ (h v' w' (by rw [sgl_app]; exact h2) h3 h5)
def Zsg (w : World) (A : Option Addr) (n : Nat) (us : List (Nat × Value)) : Prop := us.length = n ∧ (0 < n → ∃ g : Nat, A = some ⟨g, 0, none⟩ ∧ g < w.heap.size ∧ ∀ j, j < n → w.cell? ⟨g, j * 2, none⟩ = some (.int .i64 ((us.getD j (0, undef)).1 : Int)) ∧ w.cell? ⟨g, j * 2 + 1, none⟩ = some (us.getD j (0, undef)).2)
theorem Zsg.bel {w w' : World} {A : Option Addr} {n : Nat} {l : List (Nat × Value)} (h : Zsg w A n l) (hb : Bel w w') : Zsg w' A n l :=
  ⟨h.1, fun hn => by
    obtain ⟨ad, e, hx, hc⟩ := h.2 hn
    exact ⟨ad, e, by have := hb.size; omega, fun j hj => ⟨hb.kp (hc j hj).1, hb.kp (hc j hj).2⟩⟩⟩
theorem own_zsg {w : World} {base k : Nat} {v : Value} {l : List (Nat × Value)} (hr : w.ownsRow base 43 2 v k (sgl l)) (hk : l.length = k) : ∃ A c, v = .slice A k c ∧ Zsg w A k l := by
  rcases hr.2 with ⟨rfl, rfl⟩ | ⟨g, cap, cur, rfl, hb, hg, rest⟩
  · exact ⟨none, 0, rfl, hk, fun h => by omega⟩
  · refine ⟨_, cap, rfl, hk, fun hn => ⟨_, rfl, (hr.lt g rfl).2, fun j hj => ?_⟩⟩
    have e := sgl_at l j (by omega)
    have h1 := hr.cells (g := g) rfl _ _ e.1
    have h2 := hr.cells (g := g) rfl _ _ e.2
    rw [By.add_row] at h1 h2
    exact ⟨h1, h2⟩
theorem asc_ck {W : List Int} : ∀ (l : List (Nat × Nat)) (e : Int), Asc W e l → W.length ≤ 64 → l.flatMap ck = l
  | [], e, _, _ => rfl
  | r :: rs, e, h, hw => by
    rw [List.flatMap_cons, asc_ck rs _ h.2.2.2.2 hw]
    have h1 := h.2.1
    have h2 := h.2.2.1
    have e1 : (r.2 + 63) / 64 = 1 := by omega
    unfold ck
    rw [e1]
    have e2 : min 64 (r.2 - 64 * 0) = r.2 := by omega
    have e3 : ckt r 1 = [(r.1 + 64 * 0, min 64 (r.2 - 64 * 0))] := rfl
    rw [e3, e2]
    rfl
theorem cks_short {L : List Int} (h : L.length ≤ 64) : cks L = rns L 0 0 := asc_ck _ _ (asc_all L) h
theorem cut_facts {f k n c E : Nat} (hE : f + k = E) (h1 : 1 ≤ k) (h : f + k ≤ n) (hn : n ≤ 2000) (hc : n ≤ c) : IntKind.i64.wrap ((f : Int) + (k : Int)) = (E : Int) ∧ wrap64 ((f : Int) + (k : Int)) = (E : Int) ∧ (f : Int) ≤ (E : Int) ∧ (E : Int) ≤ (c : Int) ∧ ((c = f) = False) ∧ E - f = k := by
  have e : (f : Int) + (k : Int) = (E : Int) := by omega
  rw [e]
  exact ⟨IntWalk.i64_in _ (by omega), IntWalk.wrap64_in _ (by omega), by omega, by omega, by simp; omega, by omega⟩
/-- the samples of a piece -/
theorem piece_vx {L : List Int} {n f c t : Nat} (hs : Sv L) (hl : L.length = n) (hc : f + c ≤ n) (hp : ∀ j, j < c → L.getD (f + j) 0 ≠ 1073741824) (ht : 64 * t < c) : Vx ((L.drop (f + 64 * t)).take (min 64 (c - 64 * t))) := by
  have hlen : ((L.drop (f + 64 * t)).take (min 64 (c - 64 * t))).length = min 64 (c - 64 * t) := by simp; omega
  refine ⟨by rw [hlen]; omega, by rw [hlen]; omega, fun x hx => ?_⟩
  obtain ⟨j, hj, e⟩ := List.mem_iff_getElem.1 hx
  rw [hlen] at hj
  have e2 : L.getD (f + (64 * t + j)) 0 = x := by
    rw [← e, List.getD_eq_getElem?_getD, List.getElem?_eq_getElem (by omega)]
    simp [Nat.add_assoc]
  have h1 := hs.at (i := f + (64 * t + j)) (by omega)
  have h2 := hp (64 * t + j) (by omega)
  rw [e2] at h1 h2
  rcases h1 with h1 | h1
  · exact h1
  · exact absurd h1 h2
end Go.Proofs.YtnjojdmmalmhaaaGreatDoor.Se
namespace Go.Proofs.YtnjojdmmalmhaaaGreatDoor.Se
open Go.ChangeShapes Go.WideShapes Go.RowKit Wo Sr Wi Sg
set_option linter.unusedVariables false
def SomeStore (L : List Int) (w : World) (e : Ending) (w' : World) : Prop := ∃ (u : Value) (N : Nat) (us : List (Nat × Value)), e = .returned (.tuple #[u, .int .i64 0]) ∧ N = (cks L).length ∧ us.length = N ∧ w'.ownsRow w.heap.size 43 2 u N (sgl us) ∧ Srl w' L (cks L) us ∧ Bel w w'
theorem own_base0 {w : World} {B n : Nat} {e : TypeId} {v : Value} {xs : List Value} (h : w.ownsRow B e 1 v n xs) : w.ownsRow 0 e 1 v n xs := Sg.own_base h (Nat.zero_le _)
theorem t_big {k n f E t j N : Nat} (hE : f + k = E) (h : E ≤ n) (hn : n ≤ 2000) (ht : t ≤ (k + 63) / 64) (hN : N ≤ 40 * j + t) (hj : j ≤ 2000) : N ≤ 100000 := by omega
theorem t_next {t k : Nat} (h : 64 * t < k) : t + 1 ≤ (k + 63) / 64 := by omega
theorem t_end {f t k E a : Nat} (hE : f + k = E) (ha : f + 64 * t = a) (hae : E ≤ a) (ht : t ≤ (k + 63) / 64) : t = (k + 63) / 64 := by omega
theorem t_small {k n f E t j N : Nat} (hE : f + k = E) (h : E ≤ n) (hn : n ≤ 2000) (ht : t ≤ (k + 63) / 64) (hN : N ≤ 40 * j + t) : N ≤ 40 * (j + 1) := by omega
theorem v_next {f t a : Nat} (ha : f + 64 * t = a) : Value.int .i64 ((a : Int) + 64) = .int .i64 ((f + 64 * (t + 1) : Nat) : Int) := by
  subst ha
  congr 1
set_option maxHeartbeats 8000000 in
set_option maxRecDepth 100000 in
theorem store_ok (st sp : Int) (A : Option Addr) (n c : Nat) (L : List Int) (h : Sb st sp n) (hs : Sv L) (w : World) (hz : Vs w A n c L) :
    Calls Tryz.prog 7 #[.agg #[.int .i64 st, .int .i64 sp, .slice A n c]] w (SomeStore L w) := by
  have VA : Hid (∀ W, Zi W A n L → _) := fun W hW => valid_ok st sp A n c L h hs W hW
  have RU : Hid (∀ W, Zi W A n L → _) := fun W hW => runs_c st sp A n c L h hs W hW
  have HZ := Lib.hid hz
  have HSV := Lib.hid hs
  have HL := Lib.hid hz.1.1
  have ni : (n : Int) ≤ 2000 := by have := h.2.2.2.2; omega
  have hnc := hz.2.1
  have HK := Lib.hid (Bk.nw w 24 #[.int .i64 st, .int .i64 sp, .slice A n c])
  clear hs hz h
  go_enter Tryz.func7, Tryz.ntmps7
  go_wp2_with fail
  go_at_call 24
  refine (VA.out _ (HZ.out.1.bel (Bel.rf.al _))).mono ?_
  rintro e w2 ⟨rfl, hb2⟩
  have HK2 := Lib.hid (HK.out.bel hb2)
  have d0 : w2.cell? ⟨w.heap.size, 0, none⟩ = some (.int .i64 st) := HK2.out.cell 0
  have d1 : w2.cell? ⟨w.heap.size, 1, none⟩ = some (.int .i64 sp) := HK2.out.cell 1
  have d2 : w2.cell? ⟨w.heap.size, 2, none⟩ = some (.slice A n c) := HK2.out.cell 2
  have HB2 : Hid (Bel w w2) := (Bel.rf.al _).tr hb2
  clear hb2
  go_wp2_with fail
  go_at_call 25
  refine (RU.out _ (HZ.out.1.bel HB2.out)).mono ?_
  rintro e w3 ⟨A3, m, c3, rfl, hm, hz3, hb3⟩
  have HB3 : Hid (Bel w w3) := HB2.out.tr hb3
  have HK3 : Hid (Bk w3 w.heap.size 24 #[.int .i64 st, .int .i64 sp, .slice A n c]) := HK2.out.bel hb3
  have HAS : Hid (∀ t, t < m → 1 ≤ ct (rns L 0 0) t ∧ fr (rns L 0 0) t + ct (rns L 0 0) t ≤ n ∧ ∀ j, j < ct (rns L 0 0) t → L.getD (fr (rns L 0 0) t + j) 0 ≠ 1073741824) := fun t ht => by
    have h := asc_at (rns L 0 0) (-1) t (asc_all L) (by rw [← hm]; exact ht)
    rw [HL.out] at h
    refine ⟨h.2.2.1, h.2.2.2.1, fun j hj => ?_⟩
    have := h.2.2.2.2 j hj
    rwa [getD_two (by have := HL.out; have := h.2.2.2.1; omega)] at this
  have HML : Hid (m ≤ 2000) := by have := runs_len L; have := HL.out; show m ≤ 2000; omega
  have HCK : Hid (cks L = pre (rns L 0 0) m) := by show _ = _; rw [hm]; exact (pre_all _).symm
  have HPN : Hid (∀ j, j < m → pre (rns L 0 0) (j + 1) = pre (rns L 0 0) j ++ ck (fr (rns L 0 0) j, ct (rns L 0 0) j)) := fun j hj => pre_next _ j (by rw [← hm]; exact hj)
  obtain ⟨R, hR⟩ : ∃ R, rns L 0 0 = R := ⟨_, rfl⟩
  rw [hR] at HAS HCK HPN hz3
  have HZ3 := Lib.hid hz3
  have mi : (m : Int) ≤ 2000 := by have := HML.out; omega
  clear hm hR hz3 hb3 d0 d1 d2
  go_wp2
  go_loopw [4, 17] (fun s4 s17 wr => ∃ (j N : Nat) (us : List (Nat × Value)) (u : Value) (V : World), V = wr ∧ u = s4 ∧ j ≤ m ∧ s17 = .int .i64 (j : Int) ∧ us.length = N ∧ N ≤ 40 * j ∧ wr.ownsRow w3.heap.size 43 2 u N (sgl us) ∧ Srl wr L (pre R j) us ∧ Bel w3 wr) (fun s4 s17 _ => m - (intOf s17).toNat)
  case atStart => exact ⟨0, 0, [], _, _, rfl, rfl, by omega, rfl, rfl, by omega, World.ownsRow_nil _ _ _ _, ⟨rfl, fun j hj => (by simp [pre] at hj)⟩, by first | exact Bel.rf | exact Bel.rf.drw | exact Bel.rf.drwN _⟩
  case round =>
    obtain ⟨j, N, us, u, wr, hwr, hu, hj, rfl, hN, hN2, hown, hsr, hb⟩ := hrel
    subst hwr
    subst hu
    have HO := Lib.hid hown
    have HS := Lib.hid hsr
    have HB := Lib.hid hb
    have HN := Lib.hid hN
    rcases Nat.lt_or_ge j m with hlt | hge
    · obtain ⟨Q, rfl, hql, hqc⟩ := (HZ3.out.bel hb).2 (by omega)
      have hfk := HAS.out j hlt
      have hpn := HPN.out j hlt
      have c1 := (hqc j hlt).1
      have c2 := (hqc j hlt).2
      obtain ⟨f, hf⟩ : ∃ f, fr R j = f := ⟨_, rfl⟩
      obtain ⟨k, hk⟩ : ∃ f, ct R j = f := ⟨_, rfl⟩
      obtain ⟨E, hE⟩ : ∃ E, f + k = E := ⟨_, rfl⟩
      rw [hf, hk] at hfk hpn
      rw [hf] at c1
      rw [hk] at c2
      have HFK := Lib.hid (And.intro hfk (And.intro hpn hE))
      have EN : E ≤ n := hE ▸ hfk.2.1
      have EI : (f : Int) + (k : Int) = (E : Int) := by omega
      have Eb : (E : Int) ≤ 2000 := by omega
      have e1 : IntKind.i64.wrap ((f : Int) + (k : Int)) = (E : Int) := by rw [EI]; exact IntWalk.i64_in _ (by omega)
      have e2 : wrap64 ((f : Int) + (k : Int)) = (E : Int) := by rw [EI]; exact IntWalk.wrap64_in _ (by omega)
      have ji : (j : Int) < (m : Int) := by omega
      clear hown hsr hb hN hql hqc hf hk hfk hpn hE EI Eb
      go_wp2
      go_loopw [4, 8] (fun s4 s8 W => ∃ (t N : Nat) (us : List (Nat × Value)) (u : Value) (V : World), V = W ∧ u = s4 ∧ s8 = .int .i64 ((f + 64 * t : Nat) : Int) ∧ t ≤ (k + 63) / 64 ∧ us.length = N ∧ N ≤ 40 * j + t ∧ W.ownsRow w3.heap.size 43 2 u N (sgl us) ∧ Srl W L (pre R j ++ ckt (f, k) t) us ∧ Bel w3 W) (fun s4 s8 _ => E + 64 - (intOf s8).toNat)
      case atStart => exact ⟨0, N, us, _, _, rfl, rfl, by simp, by omega, HN.out, by omega, own_bel HO.out (by first | exact Bel.rf.al _ | exact (Bel.rf.al _).drwN _), by first | exact (by simpa [ckt] using HS.out.bel (Bel.rf.al _)) | exact (by simpa [ckt] using HS.out.bel ((Bel.rf.al _).drwN _)), by first | exact HB.out.al _ | exact (HB.out.al _).drwN _⟩
      case round =>
        obtain ⟨t, N2, us2, u2, W, hW, hu2, rfl, ht, hN3, hN4, ho2, hs2, hb2⟩ := hrel
        subst hW
        subst hu2
        have HO2 := Lib.hid ho2
        have HS2 := Lib.hid hs2
        have HB2' := Lib.hid hb2
        have HN3 := Lib.hid (And.intro hN3 hN4)
        obtain ⟨a, ha⟩ : ∃ a, f + 64 * t = a := ⟨_, rfl⟩
        rw [ha]
        rcases Nat.lt_or_ge a E with hae | hae
        · obtain ⟨h, rfl⟩ : ∃ h, A = some ⟨h, 0, none⟩ := by
            rcases HZ.out.2.2 with ⟨_, h0⟩ | h0
            · omega
            · exact h0
          obtain ⟨b, hbe⟩ : ∃ b, min (a + 64) E = b := ⟨_, rfl⟩
          obtain ⟨M, hM⟩ : ∃ M, min 64 (k - 64 * t) = M := ⟨_, rfl⟩
          obtain ⟨hf1, hf2, hf3⟩ := HFK.out
          have htk : 64 * t < k := by omega
          have hbM : b = a + M := by omega
          have hM1 : 1 ≤ M ∧ M ≤ 64 := by omega
          have hv := piece_vx (t := t) HSV.out HL.out hf1.2.1 hf1.2.2 htk
          have hz := zi_part ((HZ.out.1.bel (HB3.out.tr hb2))) a M (by omega)
          rw [ha, hM] at hv
          have hxl : ((L.drop a).take M).length = M := by have := HL.out; simp; omega
          have HEN : Hid (∀ V, Bel W V → _) := fun V hV => enc_ok h a (c - a) M _ hv hxl V (hz.bel hV)
          have HX := Lib.hid (And.intro hv hxl)
          obtain ⟨x, hx⟩ : ∃ x, (L.drop a).take M = x := ⟨_, rfl⟩
          rw [hx] at HEN HX
          have HXX := Lib.hid (And.intro hx (And.intro ha (And.intro hM (And.intro hbe (And.intro htk ht)))))
          have d2 : W.cell? ⟨w.heap.size, 2, none⟩ = some (.slice (some ⟨h, 0, none⟩) n c) := (HK3.out.bel hb2).cell 2
          have a64 : (a : Int) ≤ 2000 := by omega
          have bi : min ((a : Int) + 64) (E : Int) = (b : Int) := by omega
          have ab : (a : Int) ≤ (b : Int) := by omega
          have bc : (b : Int) ≤ (c : Int) := by omega
          have ai : (a : Int) < (E : Int) := by omega
          have ac : (c = a) = False := by simp; omega
          have ba : b - a = M := by omega
          have aw : IntKind.i64.wrap ((a : Int) + 64) = (a : Int) + 64 := IntWalk.i64_in _ (by omega)
          have aw2 : wrap64 ((a : Int) + 64) = (a : Int) + 64 := IntWalk.wrap64_in _ (by omega)
          clear ho2 hs2 hb2 hN3 hN4 ha hbe hM hf1 hf2 hf3 htk ht hv hz hxl hx hbM
          go_wp2_with fail
          go_at_call 26
          refine (HEN.out _ (by first | exact Bel.rf | exact Bel.rf.drwN _)).mono ?_
          rintro e V ⟨uE, rfl, hoE, hbE⟩
          have HBE : Hid (Bel W V) := by first | exact hbE | exact (Bel.rf.drwN _).tr hbE
          obtain ⟨NE, hNE⟩ : ∃ N, (seg x).length = N := ⟨_, rfl⟩
          have hNl := (seg_len HX.out.1).1
          rw [hNE] at hNl hoE
          obtain ⟨g1, q1, rfl, hq1, hqm, hq0, hrd⟩ := own_rd hoE (seg_byte HX.out.1) hNE (by omega)
          have HOE : Hid (V.ownsRow 0 5 1 (.slice (some ⟨g1, 0, none⟩) NE q1) NE (By.bys (seg x))) := own_base0 hoE
          have HNE := Lib.hid hNE
          have hNb : N2 ≤ 100000 := t_big HFK.out.2.2 EN (by omega) HXX.out.2.2.2.2.2 HN3.out.2 (by omega)
          have HNB := Lib.hid hNb
          have HS3 : Hid (Srl (V.alloc (.cells #[.int .i64 (a : Int), .slice (some ⟨g1, 0, none⟩) NE q1] 43)) L (pre R j ++ ckt (f, k) t) us2) := (HS2.out.bel HBE.out).bel (Bel.rf.al _)
          have HO3 : Hid ((V.alloc (.cells #[.int .i64 (a : Int), .slice (some ⟨g1, 0, none⟩) NE q1] 43)).ownsRow w3.heap.size 43 2 u2 N2 (sgl us2)) := own_bel HO2.out (HBE.out.al _)
          have HE3 : Hid ((V.alloc (.cells #[.int .i64 (a : Int), .slice (some ⟨g1, 0, none⟩) NE q1] 43)).ownsRow 0 5 1 (.slice (some ⟨g1, 0, none⟩) NE q1) NE (By.bys (seg x))) := own_bel HOE.out (Bel.rf.al _)
          have HTW := Lib.hid (own_two HE3.out HO3.out (by decide))
          clear hoE hbE hNE hNl hq1 hqm hq0 hrd hNb
          go_wp2_with (at_builtin; refine list_apsg _ rfl (.tmp 48) (.tmp 52) rfl w3.heap.size _ _ _ rfl (own_bel HO2.out (HBE.out.al _)) V.heap.size 1 (a, .slice (some ⟨g1, 0, none⟩) NE q1) rfl rfl (Bk.nw _ _ _) HNB.out (by have := (HB2'.out.tr HBE.out).size; simp; omega) ?_; intro v' w9 h9 hg9 hat9; have H9 := Lib.hid (And.intro h9 (And.intro hg9 hat9)); clear h9 hg9 hat9)
          go_roundw
          case rel =>
            obtain ⟨x1, x2, x3, x4, x5, x6⟩ := HXX.out
            refine ⟨t + 1, N2 + 1, us2 ++ [(a, .slice (some ⟨g1, 0, none⟩) NE q1)], _, _, rfl, rfl, v_next x2, t_next x5, by simp [HN3.out.1], by have := HN3.out.2; clear aw aw2 bi; omega, H9.out.1, ?_, bel_grown (HB2'.out.tr (HBE.out.al _)) H9.out.2.1 (own_base HO2.out)⟩
            have hlt : (a, M) = (f + 64 * t, min 64 (k - 64 * t)) := by rw [x2, x3]
            rw [ckt_next, ← List.append_assoc, ← hlt]
            have hs9 := HS3.out.kept HO3.out H9.out.2.1
            refine hs9.snoc ⟨rfl, NE, by rw [x1]; exact HNE.out, ?_⟩
            rw [x1]
            exact HE3.out.kept H9.out.2.1 (HTW.out.imp id Ne.symm)
          case measure => simp [intOf]; clear aw aw2 bi; omega
        · obtain ⟨hf1, hf2, hf3⟩ := HFK.out
          have hte := t_end hf3 ha hae ht
          have HTE := Lib.hid hte
          have HTS := Lib.hid (t_small hf3 EN (by omega) ht hN4)
          have ai : ¬ (a : Int) < (E : Int) := by omega
          clear ho2 hs2 hb2 hN3 hN4 ha hf1 hf2 hf3 hte ht
          go_wp2
          go_roundw
          case rel =>
            refine ⟨j + 1, N2, us2, _, _, rfl, rfl, by omega, by go_num, HN3.out.1, HTS.out, HO2.out, ?_, HB2'.out⟩
            have h9 := HS2.out
            rw [HTE.out] at h9
            rw [HFK.out.2.1]
            exact h9
          case measure => simp [intOf]; omega
    · obtain rfl : j = m := by omega
      clear hown hsr hb hN
      go_wp2
      go_ret2
      have h9 := HS.out
      rw [← HCK.out] at h9
      exact ⟨_, N, us, rfl, by rw [← HN.out]; exact h9.1, HN.out, own_lo HO.out HB3.out.size, h9, HB3.out.tr HB.out⟩
end Go.Proofs.YtnjojdmmalmhaaaGreatDoor.Se
namespace Go.Proofs.YtnjojdmmalmhaaaGreatDoor.Se
open Go.ChangeShapes Go.WideShapes Go.RowKit Wo Sr Wi Sg
set_option linter.unusedVariables false
/-- from E on: gaps and then the pieces of l, in order -/
def Tl (W : List Int) : Nat → List (Nat × Nat) → Prop
  | E, [] => E ≤ W.length ∧ ∀ q, E ≤ q → q < W.length → W.getD q 1073741824 = 1073741824
  | E, p :: l => E ≤ p.1 ∧ (∀ q, E ≤ q → q < p.1 → W.getD q 1073741824 = 1073741824) ∧ 1 ≤ p.2 ∧ p.1 + p.2 ≤ W.length ∧ (∀ j, j < p.2 → W.getD (p.1 + j) 1073741824 ≠ 1073741824) ∧ Tl W (p.1 + p.2) l
theorem tl_from (W : List Int) : ∀ (vs : List Int) (i c E : Nat), W.drop i = vs → W.length = i + vs.length → c ≤ i → (∀ q, i - c ≤ q → q < i → W.getD q 1073741824 ≠ 1073741824) → E ≤ i - c → (∀ q, E ≤ q → q < i - c → W.getD q 1073741824 = 1073741824) → Tl W E (rns vs i c)
  | [], i, c, E, hd, hl, hc, hp, hE, hg => by
    have hl : W.length = i := by simpa using hl
    unfold rns
    by_cases h : 0 < c
    · rw [if_pos h]
      refine ⟨hE, hg, h, by omega, fun j hj => hp _ (by omega) (by omega), ?_⟩
      exact ⟨by omega, fun q h1 h2 => by omega⟩
    · rw [if_neg h]
      exact ⟨by omega, fun q h1 h2 => hg q h1 (by omega)⟩
  | v :: vs, i, c, E, hd, hl, hc, hp, hE, hg => by
    have hl : W.length = i + 1 + vs.length := by simp at hl; omega
    have hil : i < W.length := by omega
    have hv : W.getD i 1073741824 = v := by
      rw [List.getD_eq_getElem?_getD, List.getElem?_eq_getElem hil]
      rw [List.drop_eq_getElem_cons hil] at hd
      injection hd
    have hd2 : W.drop (i + 1) = vs := by
      rw [List.drop_eq_getElem_cons hil] at hd
      injection hd
    unfold rns
    by_cases hvm : v = 1073741824
    · rw [if_pos hvm]
      by_cases h : 0 < c
      · rw [if_pos h]
        refine ⟨hE, hg, h, by show i - c + c ≤ _; omega, fun j hj => hp _ (by show _ ≤ i - c + j; omega) (by show i - c + j < i; have : j < c := hj; omega), ?_⟩
        have e : i - c + c = i := by omega
        show Tl W (i - c + c) _
        rw [e]
        refine tl_from W vs (i + 1) 0 i hd2 hl (by omega) (fun q h1 h2 => by omega) (by omega) (fun q h1 h2 => ?_)
        rw [show q = i by omega, hv]; exact hvm
      · rw [if_neg h]
        refine tl_from W vs (i + 1) 0 E hd2 hl (by omega) (fun q h1 h2 => by omega) (by omega) (fun q h1 h2 => ?_)
        rcases Nat.lt_or_ge q i with h3 | h3
        · exact hg q h1 (by omega)
        · rw [show q = i by omega, hv]; exact hvm
    · rw [if_neg hvm]
      refine tl_from W vs (i + 1) (c + 1) E hd2 hl (by omega) (fun q h1 h2 => ?_) (by omega) (fun q h1 h2 => hg q h1 (by omega))
      rcases Nat.lt_or_ge q i with h3 | h3
      · exact hp q (by omega) h3
      · rw [show q = i by omega, hv]; exact hvm
theorem tl_runs (W : List Int) : Tl W 0 (rns W 0 0) := tl_from W W 0 0 0 rfl (by omega) (by omega) (fun q h1 h2 => by omega) (by omega) (fun q h1 h2 => by omega)
theorem tl_ckt (W : List Int) (f c : Nat) (rest : List (Nat × Nat)) (hc : f + c ≤ W.length) (hp : ∀ j, j < c → W.getD (f + j) 1073741824 ≠ 1073741824) (hr : Tl W (f + c) rest) :
    ∀ d t : Nat, t + d = (c + 63) / 64 → 1 ≤ t → Tl W (f + min (64 * t) c) (((List.range' t d).map fun t => (f + 64 * t, min 64 (c - 64 * t))) ++ rest)
  | 0, t, ht, h1 => by
    have e : min (64 * t) c = c := by omega
    rw [e]; exact hr
  | d + 1, t, ht, h1 => by
    have htc : 64 * t < c := by omega
    have ih := tl_ckt W f c rest hc hp hr d (t + 1) (by omega) (by omega)
    rw [List.range'_succ]
    refine ⟨by show _ ≤ f + 64 * t; omega, fun q h2 h3 => by have h3 : q < f + 64 * t := h3; omega, by show 1 ≤ min 64 (c - 64 * t); omega, by show f + 64 * t + min 64 (c - 64 * t) ≤ _; omega, fun j hj => ?_, ?_⟩
    · have hj : j < min 64 (c - 64 * t) := hj
      show W.getD (f + 64 * t + j) _ ≠ _
      rw [Nat.add_assoc]
      exact hp _ (by omega)
    · have e : f + 64 * t + min 64 (c - 64 * t) = f + min (64 * (t + 1)) c := by omega
      show Tl W (f + 64 * t + min 64 (c - 64 * t)) _
      rw [e]; exact ih
theorem tl_cks (W : List Int) : ∀ (l : List (Nat × Nat)) (E : Nat), Tl W E l → Tl W E (l.flatMap ck)
  | [], E, h => h
  | p :: l, E, ⟨h1, h2, h3, h4, h5, h6⟩ => by
    have ih := tl_cks W l _ h6
    rw [List.flatMap_cons]
    obtain ⟨d, hd⟩ : ∃ d, (p.2 + 63) / 64 = d + 1 := ⟨(p.2 + 63) / 64 - 1, by omega⟩
    have e : ck p = (p.1, min 64 p.2) :: ((List.range' 1 d).map fun t => (p.1 + 64 * t, min 64 (p.2 - 64 * t))) := by
      unfold ck ckt
      rw [hd, List.range_eq_range', List.range'_succ]
      rfl
    rw [e]
    refine ⟨h1, h2, by show 1 ≤ min 64 p.2; omega, by show p.1 + min 64 p.2 ≤ _; omega, fun j hj => h5 j (by have hj : j < min 64 p.2 := hj; omega), ?_⟩
    have := tl_ckt W p.1 p.2 (l.flatMap ck) h4 h5 ih d 1 (by omega) (by omega)
    rw [show 64 * 1 = 64 from rfl] at this
    exact this
theorem tl_all (L : List Int) : Tl L 0 (cks L) := tl_cks L _ 0 (tl_runs L)
/-- where the piece before the j-th ends -/
def en (l : List (Nat × Nat)) : Nat → Nat
  | 0 => 0
  | t + 1 => fr l t + ct l t
theorem tl_at {W : List Int} : ∀ (l : List (Nat × Nat)) (E t : Nat), Tl W E l → t < l.length → (t = 0 → E ≤ fr l 0 ∧ ∀ q, E ≤ q → q < fr l 0 → W.getD q 1073741824 = 1073741824) ∧ (∀ u, t = u + 1 → fr l u + ct l u ≤ fr l t ∧ ∀ q, fr l u + ct l u ≤ q → q < fr l t → W.getD q 1073741824 = 1073741824) ∧ 1 ≤ ct l t ∧ fr l t + ct l t ≤ W.length ∧ ∀ j, j < ct l t → W.getD (fr l t + j) 1073741824 ≠ 1073741824
  | [], E, t, _, ht => by simp at ht
  | r :: rs, E, 0, h, ht => ⟨fun _ => ⟨h.1, h.2.1⟩, fun u hu => by omega, h.2.2.1, h.2.2.2.1, h.2.2.2.2.1⟩
  | r :: rs, E, t + 1, h, ht => by
    have ih := tl_at rs (r.1 + r.2) t h.2.2.2.2.2 (by simpa using ht)
    refine ⟨fun h0 => by omega, fun u hu => ?_, ih.2.2.1, ih.2.2.2.1, ih.2.2.2.2⟩
    have : u = t := by omega
    subst this
    rcases u with _ | u
    · exact ih.1 rfl
    · exact ih.2.1 u rfl
theorem tl_end {W : List Int} : ∀ (l : List (Nat × Nat)) (E : Nat), Tl W E l → l ≠ [] → en l l.length ≤ W.length ∧ ∀ q, en l l.length ≤ q → q < W.length → W.getD q 1073741824 = 1073741824
  | [r], E, h, _ => h.2.2.2.2.2
  | r :: r' :: rs, E, h, _ => by
    have := tl_end (r' :: rs) (r.1 + r.2) h.2.2.2.2.2 (by simp)
    exact this
/-- a piece: where it lies, what is missing ahead of it -/
theorem piece_at {L : List Int} {t : Nat} (ht : t < (cks L).length) : en (cks L) t ≤ fr (cks L) t ∧ (∀ q, en (cks L) t ≤ q → q < fr (cks L) t → L.getD q 1073741824 = 1073741824) ∧ 1 ≤ ct (cks L) t ∧ fr (cks L) t + ct (cks L) t ≤ L.length ∧ ∀ j, j < ct (cks L) t → L.getD (fr (cks L) t + j) 1073741824 ≠ 1073741824 := by
  have h := tl_at (cks L) 0 t (tl_all L) ht
  rcases t with _ | t
  · exact ⟨(h.1 rfl).1, (h.1 rfl).2, h.2.2⟩
  · exact ⟨(h.2.1 t rfl).1, (h.2.1 t rfl).2, h.2.2⟩
theorem piece_end (L : List Int) : en (cks L) (cks L).length ≤ L.length ∧ ∀ q, en (cks L) (cks L).length ≤ q → q < L.length → L.getD q 1073741824 = 1073741824 := by
  rcases h : cks L with _ | ⟨r, rs⟩
  · have := tl_all L
    rw [h] at this
    exact this
  · have := tl_end (cks L) 0 (tl_all L) (by rw [h]; simp)
    rw [h] at this
    exact this
theorem ckt_sum (p : Nat × Nat) : ∀ t, ((ckt p t).map Prod.snd).sum = min (64 * t) p.2
  | 0 => by simp [ckt]
  | t + 1 => by
    rw [ckt_next, List.map_append, List.sum_append, ckt_sum p t]
    simp
    omega
theorem cks_sum (L : List Int) : ((cks L).map Prod.snd).sum = cnt L := by
  have h : ∀ l : List (Nat × Nat), ((l.flatMap ck).map Prod.snd).sum = (l.map Prod.snd).sum := by
    intro l
    induction l with
    | nil => rfl
    | cons p l ih =>
      rw [List.flatMap_cons, List.map_append, List.sum_append, ih, List.map_cons, List.sum_cons]
      unfold ck
      rw [ckt_sum]
      omega
  unfold cks
  rw [h, rns_sum]
  omega
theorem ckt_le (p : Nat × Nat) (t : Nat) : ∀ q ∈ ckt p t, q.2 ≤ 64 := by
  intro q hq
  obtain ⟨u, _, rfl⟩ := List.mem_map.1 hq
  show min 64 _ ≤ 64
  omega
theorem cks_le {L : List Int} {t : Nat} (ht : t < (cks L).length) : ct (cks L) t ≤ 64 := by
  have hm : (cks L).getD t (0, 0) ∈ cks L := by rw [List.getD_eq_getElem?_getD, List.getElem?_eq_getElem ht]; exact List.getElem_mem ht
  obtain ⟨p, _, hp⟩ := List.mem_flatMap.1 hm
  exact ckt_le p _ _ hp
/-- what has been loaded when the pieces up to E stand -/
def ld (L : List Int) (E : Nat) : List Int := L.take E ++ List.replicate (L.length - E) 1073741824
theorem ld_zero (L : List Int) : ld L 0 = List.replicate L.length 1073741824 := by simp [ld]
theorem ld_len {L : List Int} {E : Nat} (h : E ≤ L.length) : (ld L E).length = L.length := by simp [ld]; omega
theorem ld_gap {L : List Int} {E f : Nat} (hE : E ≤ f) (hf : f ≤ L.length) (hg : ∀ q, E ≤ q → q < f → L.getD q 1073741824 = 1073741824) : ld L E = ld L f := by
  apply List.ext_getElem?
  intro i
  unfold ld
  rcases Nat.lt_or_ge i E with h | h
  · rw [List.getElem?_append_left (by simp; omega), List.getElem?_append_left (by simp; omega), List.getElem?_take_of_lt h, List.getElem?_take_of_lt (by omega)]
  · rcases Nat.lt_or_ge i f with h2 | h2
    · have := hg i h h2
      rw [List.getD_eq_getElem?_getD, List.getElem?_eq_getElem (by omega)] at this
      rw [List.getElem?_append_right (by simp; omega), List.getElem?_replicate, if_pos (by rw [List.length_take]; omega), List.getElem?_append_left (by simp; omega), List.getElem?_take_of_lt h2, List.getElem?_eq_getElem (show i < L.length by omega)]
      exact congrArg some this.symm
    · rw [List.getElem?_append_right (by simp; omega), List.getElem?_append_right (by simp; omega)]
      rw [List.getElem?_replicate, List.getElem?_replicate]
      by_cases h3 : i < L.length
      · rw [if_pos (by simp; omega), if_pos (by simp; omega)]
      · rw [if_neg (by simp; omega), if_neg (by simp; omega)]
theorem ld_next {L : List Int} {f m : Nat} (h : f + m ≤ L.length) : splice (ld L f) f ((L.drop f).take m) = ld L (f + m) := by
  apply List.ext_getElem?
  intro i
  unfold ld splice
  have l1 : ((L.drop f).take m).length = m := by simp; omega
  rcases Nat.lt_or_ge i f with h1 | h1
  · rw [List.getElem?_append_left (by simp; omega), List.getElem?_take_of_lt h1, List.getElem?_append_left (by simp; omega), List.getElem?_append_left (by simp; omega), List.getElem?_take_of_lt h1, List.getElem?_take_of_lt (by omega)]
  · rcases Nat.lt_or_ge i (f + m) with h2 | h2
    · rw [List.getElem?_append_right (by simp; omega), List.getElem?_append_left (by simp; omega), List.getElem?_append_left (by simp; omega), List.getElem?_take_of_lt h2]
      simp
      rw [List.getElem?_take_of_lt (by omega)]
      simp
      congr 1
      omega
    · have lz : (List.take f L ++ List.replicate (L.length - f) 1073741824).length = L.length := by simp; omega
      have lt : (List.take f (List.take f L ++ List.replicate (L.length - f) 1073741824)).length = f := by rw [List.length_take, lz]; omega
      have lf : (List.take f L).length = f := by rw [List.length_take]; omega
      have lg : (List.take (f + m) L).length = f + m := by rw [List.length_take]; omega
      rw [List.getElem?_append_right (by omega), List.getElem?_append_right (by omega), List.getElem?_drop, l1, lt, List.getElem?_append_right (by omega), List.getElem?_append_right (by omega), lf, lg, List.getElem?_replicate, List.getElem?_replicate]
      by_cases h3 : i < L.length
      · rw [if_pos (by omega), if_pos (by omega)]
      · rw [if_neg (by omega), if_neg (by omega)]
end Go.Proofs.YtnjojdmmalmhaaaGreatDoor.Se
namespace Go.Proofs.YtnjojdmmalmhaaaGreatDoor.Se
open Go.ChangeShapes Go.WideShapes Go.RowKit Wo Sr Wi Sg
set_option linter.unusedVariables false
theorem wr_both {x : Int} {y : Nat} (h : x = (y : Int)) (hb : y ≤ 100000) : wrap64 x = (y : Int) ∧ IntKind.i64.wrap x = (y : Int) := by
  rw [h]
  exact ⟨IntWalk.wrap64_in _ (by omega), IntWalk.i64_in _ (by omega)⟩
end Go.Proofs.YtnjojdmmalmhaaaGreatDoor.Se
namespace Go.Proofs.YtnjojdmmalmhaaaGreatDoor.Se
open Go.ChangeShapes Go.WideShapes Go.RowKit Wo Sr Wi Sg
set_option linter.unusedVariables false
theorem ch_setRow {g : Nat} (w : World) (cs : Array Value) : Ch g w (w.setRow g cs) :=
  ⟨rfl, rfl, rfl, by simp [World.setRow], fun k hk hn => setRow_other w g k cs (fun e => hn (by rw [e]))⟩
/-- a copy in a region that draws its order: only the row has changed -/
theorem step_copy_ch {P : Program} {ops : Array Oper} {o : Oper} {a : Act} {w : World} {K : Act → World → Prop} {Q : Exit → Act → World → Prop} {E : Prop} (hgd : o.guard = none) (d s : Operand) (dT sT : TypeId)
    (ho : o.op = .call { callee := .builtin .copy, args := #[d, s], argTypes := #[dT, sT] }) (elem : TypeId) (hu : P.underlying dT = some (.slice elem)) (hsz : (P.info? elem).map (·.size) = some 1)
    (g off dLen dCap : Nat) (ad : Addr) (sLen sCap : Nat) (hd : a.eval d = .slice (some ⟨g, off, none⟩) dLen dCap) (hs : a.eval s = .slice (some ad) sLen sCap)
    (cur : List Value) (t : TypeId) (hg : w.heap[g]? = some (.cells cur.toArray t (0, 0))) (cs : List Value) (hn : cs.length = Nat.min sLen dLen)
    (hsrc : ∀ j v, cs[j]? = some v → w.cell? (ad.add j) = some v) (hfit : off + cs.length ≤ cur.length) (h1 : ∀ v ∈ cs, v.oneCell' = true)
    (h : ∀ w', Bk w' g t (splice cur off cs).toArray → Ch g w w' → K (a.put o.dst (goInt cs.length)) w') :
    if Region.wanted o (yielded ops a.tmps) = true then Oper.wp P o a w K Q else E := by
  rw [if_pos (by simp [Region.wanted, hgd])]
  have hrun := run_copy_row (P := P) w dT sT o.type elem g off dLen dCap ad sLen sCap cur.toArray t cs hu hsz hg hn hsrc (by simpa using hfit) h1
  unfold Oper.wp
  simp [execOp, ho, resolve, invoke, builtin, hd, hs, hrun, Result.andThen]
  exact h _ (show _ = _ by simpa [splice] using setRow_heap w g _ _ t _ hg) (ch_setRow w _)
def SomeRepB (x : Int) (k : Nat) (w : World) (e : Ending) (w' : World) : Prop := ∃ a, e = .returned (.slice (some ⟨a, 0, none⟩) k k) ∧ w.heap.size ≤ a ∧ (0 < k → Bk w' a 3 (zs (List.replicate k x)).toArray) ∧ Bel w w'
theorem repeat_b (g : Nat) (x : Int) (k : Nat) (k2 : k ≤ 300) (w : World) (hc : w.cell? ⟨g, 0, none⟩ = some (.int .i64 x)) :
    Calls Tryz.prog 27 #[.slice (some ⟨g, 0, none⟩) 1 1, .int .i64 (k : Int)] w (SomeRepB x k w) := by
  rcases Nat.eq_zero_or_pos k with h | h
  · subst h
    refine (repeat_zero g x w hc).mono ?_
    rintro e w' ⟨a, rfl, ha, _, hb⟩
    exact ⟨a, rfl, ha, fun h => by omega, hb⟩
  · refine (repeat_ok g x k h k2 w hc).mono ?_
    rintro e w' ⟨rfl, hk, hb⟩
    exact ⟨w.heap.size, rfl, Nat.le_refl _, fun _ => hk, hb⟩
set_option maxHeartbeats 8000000 in
set_option maxRecDepth 100000 in
theorem load_ok (st sp : Int) (n : Nat) (L : List Int) (h : Sb st sp n) (hs : Sv L) (hl : L.length = n) (n200 : n ≤ 200) (A3 : Option Addr) (c3 N : Nat) (us : List (Nat × Value)) (hN : N = (cks L).length) (w : World) (hz : Zsg w A3 N us) (hsr : Srl w L (cks L) us) :
    Calls Tryz.prog 8 #[.slice A3 N c3, .int .i64 st, .int .i64 sp, .int .i64 (n : Int)] w fun e w' => ∃ a, e = .returned (.tuple #[.agg #[.int .i64 st, .int .i64 sp, .slice (some ⟨a, 0, none⟩) n n], .int .i64 0]) ∧ Zi w' (some ⟨a, 0, none⟩) n L ∧ Bel w w' := by
  have HS := Lib.hid h
  have ni : (n : Int) ≤ 200 := by omega
  have HZ := Lib.hid hz
  have HSR := Lib.hid hsr
  have HL := Lib.hid hl
  have HN := Lib.hid hN
  have HQ0 := Lib.hid (Bk.nw w 24 #[.int .i64 0, .int .i64 0, .slice none 0 0])
  clear hz hsr hl hN h
  go_enter Tryz.func8, Tryz.ntmps8
  go_wp2_with fail
  go_at_call 27
  refine (repeat_b (w.heap.size + 1) 1073741824 n (by omega) _ (by first | exact (Bk.nw _ _ _).cell 0 | exact (Bk.nq _ _ _ (g := w.heap.size + 1) (by simp)).cell 0)).mono ?_
  rintro e w2 ⟨a, rfl, ha, hk, hb2⟩
  have ha2 : w.heap.size + 2 ≤ a := by simp at ha; omega
  have HB2 : Hid (Bel w w2) := ((Bel.rf.al _).al _).tr hb2
  have HQ2 : Hid (Bk w2 w.heap.size 24 #[.int .i64 0, .int .i64 0, .slice none 0 0]) := (HQ0.out.al _).bel hb2
  have HK2 := Lib.hid hk
  have hal : 0 < n → a < w2.heap.size := fun hn => (hk hn).lt
  have HAL := Lib.hid hal
  have hzr : Zi w2 (some ⟨a, 0, none⟩) n (List.replicate n 1073741824) := by
    rcases Nat.eq_zero_or_pos n with h0 | h0
    · subst h0; exact zi_none
    · exact zi_bk (hk h0) n (by simp)
  have VA : Hid (∀ W, Bel w2 W → _) := fun W hW => valid_ok st sp (some ⟨a, 0, none⟩) n n (List.replicate n 1073741824) HS.out (Sv.rep n) W (hzr.bel hW)
  have HKS := Lib.hid (Bk.nw w2 24 #[.int .i64 st, .int .i64 sp, .slice (some ⟨a, 0, none⟩) n n])
  have hsz2 : w.heap.size + 2 ≤ w2.heap.size := by have := hb2.size; simp at this; omega
  obtain ⟨b, hab, hbl, hbg⟩ : ∃ b, (0 < n → a = b) ∧ b < w2.heap.size ∧ w.heap.size + 1 ≤ b := by
    rcases Nat.eq_zero_or_pos n with h0 | h0
    · exact ⟨w.heap.size + 1, fun h => by omega, by omega, by omega⟩
    · exact ⟨a, fun _ => rfl, hal h0, by omega⟩
  have HAB := Lib.hid hab
  clear ha hk hb2 hal hzr hab
  go_wp2_with fail
  go_at_call 24
  refine (VA.out _ (Bel.rf.al _)).mono ?_
  rintro e w4 ⟨rfl, hb4⟩
  have HB4 : Hid (Bel w2 w4) := (Bel.rf.al _).tr hb4
  have HQ4 : Hid (Bk w4 w.heap.size 24 #[.int .i64 0, .int .i64 0, .slice none 0 0]) := HQ2.out.bel HB4.out
  have HS4 : Hid (Bk w4 w2.heap.size 24 #[.int .i64 st, .int .i64 sp, .slice (some ⟨a, 0, none⟩) n n]) := HKS.out.bel hb4
  have HK4 : Hid (0 < n → Bk w4 a 3 (zs (List.replicate n 1073741824)).toArray) := fun hn => (HK2.out hn).bel HB4.out
  have HN2 : Hid (N ≤ 2000) := by
    have h1 : ∀ t, t ≤ N → t ≤ en (cks L) t := fun t => by
      induction t with
      | zero => intro _; exact Nat.zero_le _
      | succ t ih =>
        intro h
        have h2 := ih (by omega)
        have h3 := piece_at (L := L) (t := t) (by rw [← HN.out]; omega)
        show t + 1 ≤ fr (cks L) t + ct (cks L) t
        omega
    have h2 := h1 N (Nat.le_refl _)
    have h3 := (piece_end L).1
    rw [← HN.out] at h3
    have := HL.out
    show N ≤ 2000
    omega
  have Ni : (N : Int) ≤ 2000 := by have := HN2.out; omega
  clear hb4
  go_wp2
  go_loopw [11, 35] (fun s11 s35 wr => ∃ (j : Nat) (V : World), V = wr ∧ j ≤ N ∧ s35 = .int .i64 (j : Int) ∧ s11 = .int .i64 (en (cks L) j : Int) ∧ Ch b w4 wr ∧ (0 < n → Bk wr b 3 (zs (ld L (en (cks L) j))).toArray)) (fun s11 s35 _ => N - (intOf s35).toNat)
  case atStart => exact ⟨0, _, rfl, Nat.zero_le _, rfl, rfl, by first | exact Ch.rf | exact Ch.rf.drw | exact Ch.rf.drwN _, fun hn => by show Bk _ b _ (zs (ld L 0)).toArray; rw [ld_zero, HL.out, ← HAB.out hn]; first | exact HK4.out hn | exact (HK4.out hn).drw | exact (HK4.out hn).drwN _⟩
  case round =>
    obtain ⟨j, wr, hwr, hj, rfl, rfl, hch, hbk⟩ := hrel
    subst hwr
    have HC := Lib.hid hch
    have HB := Lib.hid hbk
    have HBW : Hid (Bel w wr) := Bel.ch (HB2.out.tr HB4.out) hch (by omega)
    rcases Nat.lt_or_ge j N with hlt | hge
    · have hbw := HBW.out
      obtain ⟨P, rfl, hpl, hpc⟩ := (HZ.out.bel hbw).2 (by omega)
      have p1 := (hpc j hlt).1
      have p2 := (hpc j hlt).2
      have hjc : j < (cks L).length := by rw [← HN.out]; exact hlt
      obtain ⟨q1, N1, q2, q3⟩ := (HSR.out.2 j hjc).bel hbw
      obtain ⟨g1, g2, g3, g4, g5⟩ := piece_at hjc
      have g6 := cks_le hjc
      have q1' : (us.getD j (0, undef)).1 = fr (cks L) j := q1
      have q2' : (seg ((L.drop (fr (cks L) j)).take (ct (cks L) j))).length = N1 := q2
      have q3' : wr.ownsRow 0 5 1 (us.getD j (0, undef)).2 N1 (By.bys (seg ((L.drop (fr (cks L) j)).take (ct (cks L) j)))) := q3
      rw [q1'] at p1
      have HEN : Hid (en (cks L) (j + 1) = fr (cks L) j + ct (cks L) j) := rfl
      obtain ⟨f, hf⟩ : ∃ f, fr (cks L) j = f := ⟨_, rfl⟩
      obtain ⟨m, hm⟩ : ∃ m, ct (cks L) j = m := ⟨_, rfl⟩
      obtain ⟨E, hE⟩ : ∃ E, en (cks L) j = E := ⟨_, rfl⟩
      obtain ⟨U, hU⟩ : ∃ U, (us.getD j (0, undef)).2 = U := ⟨_, rfl⟩
      rw [hf, hm] at HEN
      rw [hE] at hbk g1 g2 ⊢
      rw [hU] at p2 q3'
      rw [hf] at p1 g1 g2
      rw [hf, hm] at g4 g5 q2' q3'
      rw [hm] at g3 g6
      rw [HL.out] at g4
      have n1 : 0 < n := by omega
      obtain rfl : a = b := HAB.out n1
      have hbk1 := hbk n1
      have hlg : ld L E = ld L f := ld_gap g1 (by rw [HL.out]; omega) g2
      rw [hlg] at hbk1
      have hv : Vx ((L.drop f).take m) := by
        have h9 := piece_vx (t := 0) hs HL.out g4 (fun i hi => by have := g5 i hi; rwa [getD_two (by rw [HL.out]; omega)] at this) (by omega)
        rwa [show f + 64 * 0 = f by omega, show min 64 (m - 64 * 0) = m by omega] at h9
      have hN1 := (seg_len hv).1
      have hN2 := (seg_len hv).2.1
      rw [q2'] at hN1 hN2
      obtain ⟨h1, c1, rfl, hc1, hcm, _, hrd⟩ := own_rd q3' (seg_byte hv) q2' (by omega)
      have hsp := ld_next (L := L) (f := f) (m := m) (by rw [HL.out]; exact g4)
      obtain ⟨x, hx⟩ : ∃ x, (L.drop f).take m = x := ⟨_, rfl⟩
      have hxl : x.length = m := by rw [← hx]; have := HL.out; simp; omega
      rw [hx] at hv hrd hsp
      have HDC : Hid (∀ W, Bel wr W → _) := fun W hW => dec_any (some ⟨h1, 0, none⟩) c1 N1 (seg x) (by omega) hc1 hcm W (hrd.bel hW)
      have HX := Lib.hid (And.intro hv (And.intro hxl (And.intro hsp HEN.out)))
      have HBK := Lib.hid hbk1
      have hkt := HC.out.bk HS4.out (by omega)
      have HKT := Lib.hid hkt
      have HSG := Lib.hid (Bk.nw wr 43 #[.int .i64 (f : Int), .slice (some ⟨h1, 0, none⟩) N1 c1])
      have ji : (j : Int) < (N : Int) := Int.ofNat_lt.2 hlt
      have HG := Lib.hid (And.intro g1 (And.intro g3 (And.intro g4 g6)))
      have HLF : Hid ((ld L f).length = n) := by show _ = _; rw [ld_len (by rw [HL.out]; omega)]; exact HL.out
      clear hbw hpl hpc hjc q1 q2 q3 q1' q2' q3' g1 g2 g3 g4 g5 g6 hf hm hE hU hbk hbk1 hlg hv hN1 hN2 hc1 hcm hrd hsp hx hxl hkt hch HEN HB
      go_wp2_with fail
      go_at_call 28
      refine (HDC.out _ (by repeat (first | exact Bel.rf | (with_reducible refine Bel.drwN ?_ _) | (with_reducible refine Bel.drw ?_) | (with_reducible refine Bel.al ?_ _)))).mono ?_
      rintro e v6 ⟨A6, n6, c6, L6, er, rfl, hz6, h61, h62, h63, h64, h65, hb6, _, _, hx6⟩
      obtain ⟨her, hLx⟩ := hx6 x HX.out.1 rfl
      subst her hLx
      have HB6 : Hid (Bel wr v6) := by first | exact (Bel.rf.al _).tr hb6 | exact ((Bel.rf.al _).drwN _).tr hb6
      have hn6 := hz6.1
      obtain rfl : n6 = m := by have := HX.out.2.1; omega
      obtain ⟨ad, rfl, had, hac⟩ := hz6.2 (by have := HG.out; omega)
      have HZ6 := Lib.hid (zi_news hz6)
      have hsg : Bk v6 wr.heap.size 43 #[.int .i64 (f : Int), .slice (some ⟨h1, 0, none⟩) N1 c1] := by first | exact HSG.out.bel hb6 | exact (HSG.out.drwN _).bel hb6
      have s0 : v6.cell? ⟨wr.heap.size, 0, none⟩ = some (.int .i64 (f : Int)) := hsg.cell 0
      have t2 : v6.cell? ⟨w2.heap.size, 2, none⟩ = some (.slice (some ⟨a, 0, none⟩) n n) := (HKT.out.bel HB6.out).cell 2
      have sl := hsg.lt
      have HA6 : Hid (Bk v6 a 3 (zs (ld L f)).toArray) := HBK.out.bel HB6.out
      have al := HA6.out.lt
      obtain ⟨u1, u2, u3, u4⟩ := HG.out
      have i1 : ¬ (f : Int) < (E : Int) := by omega
      have i2 : (n : Int) - (n6 : Int) = ((n - n6 : Nat) : Int) := by omega
      have i3 : ¬ ((n - n6 : Nat) : Int) < (f : Int) := by omega
      have i4 : (f : Int) ≤ (n : Int) := by omega
      have i5 : (n = f) = False := by simp; omega
      have i6 : (f : Int) + (n6 : Int) = ((f + n6 : Nat) : Int) := by omega
      have i7 : Nat.min n6 (n - f) = n6 := Nat.min_eq_left (by omega)
      have HI := Lib.hid (And.intro i6 i7)
      clear hb6 hx6 hz6 h61 h62 h63 h64 h65 hn6 had hac hsg u1 u2 u3 u4 i6 i7
      have HMN : Hid ((zs L6).length = Nat.min n6 (n - f)) := by show _ = _; rw [zs_len, HX.out.2.1, HI.out.2]
      have HFT : Hid (f + (zs L6).length ≤ (zs (ld L f)).length) := by show _ ≤ _; rw [zs_len, zs_len, HX.out.2.1, HLF.out]; exact HG.out.2.2.1
      have hzl : (zs L6).length = n6 := by rw [zs_len, HX.out.2.1]
      have HSRC : Hid (∀ W, Bel v6 W → ∀ j u, (zs L6)[j]? = some u → W.cell? (ad.add j) = some u) := fun W hW j u hu => hW.kp (HZ6.out j u hu)
      obtain ⟨E2, hE2⟩ : ∃ E2, f + n6 = E2 := ⟨_, rfl⟩
      have HE2 := Lib.hid hE2
      have i6 : (f : Int) + (n6 : Int) = (E2 : Int) := by omega
      have e2b : E2 ≤ 100000 := by have := HG.out; omega
      have HW := Lib.hid (wr_both (x := (E2 : Int)) rfl e2b)
      have HZL := Lib.hid hzl
      clear hE2 e2b hzl i6
      have HNE : Hid ((⟨wr.heap.size, 0, none⟩ : Addr).block ≠ a) := by
        show wr.heap.size ≠ a
        have k1 := HB4.out.size
        have k2 := HC.out.sz
        omega
      have HS0 := Lib.hid s0
      go_wp2
      go_region_law (refine step_copy_ch rfl (.tmp 68) (.tmp 69) 22 22 rfl 3 Tryz.underlying22 size_int a f (n - f) (n - f) ad n6 c6 (by simp [Act.eval, Act.put]) (by simp [Act.eval, Act.put]) (zs (ld L f)) 3 (HA6.out.bel (by repeat (first | exact Bel.rf | (with_reducible refine Bel.drwN ?_ _) | (with_reducible refine Bel.drw ?_) | (with_reducible refine Bel.al ?_ _)))) (zs L6) HMN.out (HSRC.out _ (by repeat (first | exact Bel.rf | (with_reducible refine Bel.drwN ?_ _) | (with_reducible refine Bel.drw ?_) | (with_reducible refine Bel.al ?_ _)))) HFT.out (zs_one _) ?_; intro w7 hk7 hc7; have s7 : w7.cell? ⟨wr.heap.size, 0, none⟩ = some (.int .i64 (f : Int)) := Ch.kp hc7 (Bel.kp (by repeat (first | exact Bel.rf | (with_reducible refine Bel.drwN ?_ _) | (with_reducible refine Bel.drw ?_) | (with_reducible refine Bel.al ?_ _))) HS0.out) HNE.out)
      all_goals
        rw [splice_zs, HX.out.2.2.1, HE2.out] at hk7
        have H7 : Hid (Ch a w4 w7) := (HC.out.tr (Ch.of_bel HB6.out)).tr (by first | exact hc7 | exact (Ch.rf.drwN _).tr hc7 | exact (Ch.rf.drw).tr hc7)
        have HK7 := Lib.hid hk7
        clear hk7 hc7
        have i6 : (f : Int) + (n6 : Int) = (E2 : Int) := by have := HE2.out; omega
        have hzl := HZL.out
        obtain ⟨i7, i8⟩ := HW.out
        (try simp only [hzl, i6, i8])
        (try go_simp)
        clear i7 i8 i6
        go_wp2
        go_roundw
        case rel => exact ⟨j + 1, _, rfl, hlt, by go_num, by rw [HX.out.2.2.2, HE2.out], H7.out, fun _ => by rw [HX.out.2.2.2, HE2.out]; exact HK7.out⟩
        case measure => simp [intOf]; omega
    · obtain rfl : j = N := by omega
      have hkq := HC.out.bk HQ4.out (by omega)
      have hkt := HC.out.bk HS4.out (by omega)
      have HKQ := Lib.hid hkq
      have q0 := hkq.cell 0
      have q1 := hkq.cell 1
      have q2 := hkq.cell 2
      have f0 := hkq.fr 0
      have f1 := hkq.fr 1
      have f2 := hkq.fr 2
      have ql := hkq.lt
      have t0 := hkt.cell 0
      have t1 := hkt.cell 1
      have t2 := hkt.cell 2
      have tl := hkt.lt
      have hfin : Zi wr (some ⟨a, 0, none⟩) n L := by
        rcases Nat.eq_zero_or_pos n with h0 | h0
        · have := HL.out
          subst h0
          obtain rfl : L = [] := List.eq_nil_of_length_eq_zero this
          exact zi_none
        · have h2 := hbk h0
          have h3 := piece_end L
          rw [← HN.out] at h3
          rw [ld_gap h3.1 (Nat.le_refl _) h3.2] at h2
          have h4 : ld L L.length = L := by simp [ld]
          rw [h4, ← HAB.out h0] at h2
          exact zi_bk h2 n HL.out
      have HF := Lib.hid hfin
      clear hch hbk hkq hkt hfin
      go_wp2
      refine bodyPost_ret (v := .tuple #[.agg #[.int .i64 st, .int .i64 sp, .slice (some ⟨a, 0, none⟩) n n], .int .i64 0]) (results_s2 Tryz.results8 _ _ w.heap.size _ _ _ rfl (((HKQ.out.st 0 _).st 1 _).st 2 _)) rfl ?_
      have hf : ∀ ad, (some ⟨a, 0, none⟩ : Option Addr) = some ad → ad.block ≠ w.heap.size := fun ad e => by cases e; show a ≠ w.heap.size; omega
      have HV9 : Vs wr (some ⟨a, 0, none⟩) n n L := ⟨HF.out, Nat.le_refl _, .inr ⟨_, rfl⟩⟩
      exact ⟨a, rfl, (((HV9.far (q := ⟨w.heap.size, 0, none⟩) hf _).far (q := ⟨w.heap.size, 1, none⟩) hf _).far (q := ⟨w.heap.size, 2, none⟩) hf _).1, ((HBW.out.st (p := ⟨w.heap.size, 0, none⟩) (Nat.le_refl _) _).st (p := ⟨w.heap.size, 1, none⟩) (Nat.le_refl _) _).st (p := ⟨w.heap.size, 2, none⟩) (Nat.le_refl _) _⟩
end Go.Proofs.YtnjojdmmalmhaaaGreatDoor.Se
namespace Go.Proofs.YtnjojdmmalmhaaaGreatDoor.Wi
set_option linter.unusedVariables false
def df (X Y : List Int) : List Int := List.zipWith (fun a b => a - b) X Y
theorem df_len {X Y : List Int} (h : X.length = Y.length) : (df X Y).length = X.length := by simp [df, h]
theorem df_at {X Y : List Int} (h : X.length = Y.length) (i : Nat) (hi : i < X.length) : (df X Y).getD i 0 = X.getD i 0 - Y.getD i 0 := by
  have hj : i < Y.length := by omega
  rw [List.getD_eq_getElem?_getD, List.getD_eq_getElem?_getD, List.getD_eq_getElem?_getD, df, List.getElem?_zipWith, List.getElem?_eq_getElem hi, List.getElem?_eq_getElem hj]
  rfl
theorem df_take (X Y : List Int) (k : Nat) : df (X.take k) (Y.take k) = (df X Y).take k := by simp [df, List.take_zipWith]
theorem df_drop (X Y : List Int) (k : Nat) : df (X.drop k) (Y.drop k) = (df X Y).drop k := by simp [df, List.drop_zipWith]
/-- all numbers are at most B from 0 -/
def Bd (B : Int) (L : List Int) : Prop := ∀ x ∈ L, -B ≤ x ∧ x ≤ B
theorem Bd.take {B : Int} {L : List Int} (h : Bd B L) (n : Nat) : Bd B (L.take n) := fun x hx => h x (List.mem_of_mem_take hx)
theorem sam_bd {L : List Int} (h : Sam L) : Bd 1000 L := h
theorem df_bd {A B : Int} {X Y : List Int} (h1 : Bd A X) (h2 : Bd B Y) : Bd (A + B) (df X Y) := by
  induction X generalizing Y with
  | nil => intro x hx; simp [df] at hx
  | cons a X ih =>
    rcases Y with _ | ⟨b, Y⟩
    · intro x hx; simp [df] at hx
    · intro x hx
      rcases List.mem_cons.1 (show x ∈ (a - b) :: df X Y from hx) with rfl | hx
      · have := h1 a (by simp)
        have := h2 b (by simp)
        omega
      · exact ih (fun y hy => h1 y (by simp [hy])) (fun y hy => h2 y (by simp [hy])) x hx
theorem sq_bd {B x : Int} (h1 : -B ≤ x) (h2 : x ≤ B) : 0 ≤ x * x ∧ x * x ≤ B * B := by
  have a : 0 ≤ (B - x) * (B + x) := Int.mul_nonneg (by omega) (by omega)
  have e : (B - x) * (B + x) = B * B - x * x := by grind
  have b := sq_nn x
  omega
theorem su_bd {B : Int} {L : List Int} (h : Bd B L) : -(B * (L.length : Int)) ≤ su ix L ∧ su ix L ≤ B * (L.length : Int) := by
  induction L with
  | nil => simp [su]
  | cons x L ih =>
    have h1 := ih (fun y hy => h y (by simp [hy]))
    have h2 := h x (by simp)
    have e : B * ((L.length + 1 : Nat) : Int) = B * (L.length : Int) + B := by rw [show ((L.length + 1 : Nat) : Int) = (L.length : Int) + 1 by omega]; grind
    simp only [su, ix, List.length_cons, e]
    omega
theorem susq_bd {B : Int} {L : List Int} (h : Bd B L) : 0 ≤ su sq L ∧ su sq L ≤ B * B * (L.length : Int) := by
  induction L with
  | nil => simp [su]
  | cons x L ih =>
    have h1 := ih (fun y hy => h y (by simp [hy]))
    have h2 := h x (by simp)
    have h3 := sq_bd h2.1 h2.2
    have e : B * B * ((L.length + 1 : Nat) : Int) = B * B * (L.length : Int) + B * B := by rw [show ((L.length + 1 : Nat) : Int) = (L.length : Int) + 1 by omega]; grind
    simp only [su, sq, List.length_cons, e]
    omega
theorem df_zero (X Y : List Int) (h : X.length = Y.length) : su sq (df X Y) = 0 ↔ X = Y := by
  induction X generalizing Y with
  | nil =>
    rcases Y with _ | ⟨b, Y⟩
    · simp [df, su]
    · simp at h
  | cons a X ih =>
    rcases Y with _ | ⟨b, Y⟩
    · simp at h
    · have e : su sq (df (a :: X) (b :: Y)) = (a - b) * (a - b) + su sq (df X Y) := rfl
      have n1 := sq_nn (a - b)
      have n2 : 0 ≤ su sq (df X Y) := by
        have : ∀ L, 0 ≤ su sq L := fun L => by
          induction L with
          | nil => simp [su]
          | cons x L ih2 => have := sq_nn x; simp only [su, sq]; omega
        exact this _
      rw [e]
      have i := ih Y (by simpa using h)
      constructor
      · intro h0
        have h1 : (a - b) * (a - b) = 0 := by omega
        have h2 : su sq (df X Y) = 0 := by omega
        have h3 : a - b = 0 := by rcases Int.mul_eq_zero.1 h1 with h | h <;> exact h
        rw [i.1 h2, show a = b by omega]
      · intro h0
        injection h0 with h1 h2
        subst h1
        rw [i.2 h2]
        simp
def dot : List Int → List Int → Int
  | x :: X, y :: Y => x * y + dot X Y
  | _, _ => 0
def lc (s t : Int) (X Y : List Int) : List Int := List.zipWith (fun a b => s * a + t * b) X Y
theorem lc_len (s t : Int) {X Y : List Int} (h : X.length = Y.length) : (lc s t X Y).length = X.length := by simp [lc, h]
theorem lc_su (s t : Int) (X Y : List Int) (h : X.length = Y.length) : su ix (lc s t X Y) = s * su ix X + t * su ix Y := by
  induction X generalizing Y with
  | nil =>
    rcases Y with _ | ⟨b, Y⟩
    · simp [lc, su]
    · simp at h
  | cons a X ih =>
    rcases Y with _ | ⟨b, Y⟩
    · simp at h
    · have e : su ix (lc s t (a :: X) (b :: Y)) = (s * a + t * b) + su ix (lc s t X Y) := rfl
      rw [e, ih Y (by simpa using h), show su ix (a :: X) = a + su ix X from rfl, show su ix (b :: Y) = b + su ix Y from rfl]
      grind
theorem lc_sq (s t : Int) (X Y : List Int) (h : X.length = Y.length) : su sq (lc s t X Y) = s * s * su sq X + 2 * (s * t) * dot X Y + t * t * su sq Y := by
  induction X generalizing Y with
  | nil =>
    rcases Y with _ | ⟨b, Y⟩
    · simp [lc, su, dot]
    · simp at h
  | cons a X ih =>
    rcases Y with _ | ⟨b, Y⟩
    · simp at h
    · have e : su sq (lc s t (a :: X) (b :: Y)) = (s * a + t * b) * (s * a + t * b) + su sq (lc s t X Y) := rfl
      rw [e, ih Y (by simpa using h), show su sq (a :: X) = a * a + su sq X from rfl, show su sq (b :: Y) = b * b + su sq Y from rfl, show dot (a :: X) (b :: Y) = a * b + dot X Y from rfl]
      grind
theorem susq_nn (L : List Int) : 0 ≤ su sq L := by
  induction L with
  | nil => simp [su]
  | cons x L ih2 => have := sq_nn x; simp only [su, sq]; omega
/-- a quadratic form that is never below 0 -/
theorem quad_cs {A B D : Int} (h : ∀ s t : Int, 0 ≤ s * s * A + 2 * (s * t) * D + t * t * B) : D * D ≤ A * B := by
  have hA : 0 ≤ A := by have := h 1 0; simp at this; exact this
  have hB : 0 ≤ B := by have := h 0 1; simp at this; exact this
  rcases Int.lt_or_le 0 B with hb | hb
  · have h1 := h B (-D)
    have e : B * B * A + 2 * (B * -D) * D + -D * -D * B = B * (A * B - D * D) := by grind
    rw [e] at h1
    rcases Int.lt_or_le (A * B - D * D) 0 with h2 | h2
    · have h3 : 0 < B * -(A * B - D * D) := Int.mul_pos hb (by omega)
      have e2 : B * -(A * B - D * D) = -(B * (A * B - D * D)) := by grind
      omega
    · omega
  · obtain rfl : B = 0 := by omega
    have h1 := h 1 (-((A + 1) * D))
    have e : 1 * 1 * A + 2 * (1 * -((A + 1) * D)) * D + -((A + 1) * D) * -((A + 1) * D) * 0 = A - 2 * ((A + 1) * (D * D)) := by grind
    rw [e] at h1
    have n := sq_nn D
    rcases Int.lt_or_le 0 (D * D) with h2 | h2
    · have h3 : (A + 1) * 1 ≤ (A + 1) * (D * D) := Int.mul_le_mul_of_nonneg_left (by omega) (by omega)
      omega
    · rw [Int.mul_zero]; omega
/-- the roots of sums of squares obey the triangle -/
theorem tri_of {a b c D : Int} (hc : c = a + b + 2 * D) (h : D * D ≤ a * b) : (c - a - b) * (c - a - b) ≤ 4 * (a * b) := by
  have e : (c - a - b) * (c - a - b) = 4 * (D * D) := by
    have : c - a - b = 2 * D := by omega
    rw [this]; grind
  omega
theorem df_lc (X Y Z : List Int) (h1 : X.length = Y.length) (h2 : Y.length = Z.length) : df X Z = lc 1 1 (df X Y) (df Y Z) := by
  induction X generalizing Y Z with
  | nil => simp [df, lc]
  | cons a X ih =>
    rcases Y with _ | ⟨b, Y⟩
    · simp at h1
    · rcases Z with _ | ⟨c, Z⟩
      · simp at h2
      · have e := ih Y Z (by simpa using h1) (by simpa using h2)
        show (a - c) :: df X Z = (1 * (a - b) + 1 * (b - c)) :: lc 1 1 (df X Y) (df Y Z)
        rw [e]
        congr 1
        omega
theorem dist_tri (X Y Z : List Int) (h1 : X.length = Y.length) (h2 : Y.length = Z.length) :
    (su sq (df X Z) - su sq (df X Y) - su sq (df Y Z)) * (su sq (df X Z) - su sq (df X Y) - su sq (df Y Z)) ≤ 4 * (su sq (df X Y) * su sq (df Y Z)) := by
  have hl : (df X Y).length = (df Y Z).length := by rw [df_len h1, df_len h2, h1]
  refine tri_of (D := dot (df X Y) (df Y Z)) ?_ (quad_cs fun s t => ?_)
  · rw [df_lc X Y Z h1 h2, lc_sq _ _ _ _ hl]; grind
  · rw [← lc_sq s t _ _ hl]; exact susq_nn _
theorem shift_tri (X Y Z : List Int) (h1 : X.length = Y.length) (h2 : Y.length = Z.length) :
    (vr (df X Z) - vr (df X Y) - vr (df Y Z)) * (vr (df X Z) - vr (df X Y) - vr (df Y Z)) ≤ 4 * (vr (df X Y) * vr (df Y Z)) := by
  have hl : (df X Y).length = (df Y Z).length := by rw [df_len h1, df_len h2, h1]
  have key : ∀ s t : Int, vr (lc s t (df X Y) (df Y Z)) = s * s * vr (df X Y) + 2 * (s * t) * (((df X Y).length : Int) * dot (df X Y) (df Y Z) - su ix (df X Y) * su ix (df Y Z)) + t * t * vr (df Y Z) := by
    intro s t
    unfold vr
    rw [lc_len s t hl, lc_sq _ _ _ _ hl, lc_su _ _ _ _ hl, ← hl]
    grind
  refine tri_of (D := ((df X Y).length : Int) * dot (df X Y) (df Y Z) - su ix (df X Y) * su ix (df Y Z)) ?_ (quad_cs fun s t => ?_)
  · rw [df_lc X Y Z h1 h2, key]; grind
  · rw [← key s t]; exact vr_nn _
theorem df_swap (X Y : List Int) : su sq (df Y X) = su sq (df X Y) ∧ su ix (df Y X) = -su ix (df X Y) := by
  induction X generalizing Y with
  | nil => rcases Y with _ | ⟨b, Y⟩ <;> simp [df, su]
  | cons a X ih =>
    rcases Y with _ | ⟨b, Y⟩
    · simp [df, su]
    · obtain ⟨i1, i2⟩ := ih Y
      refine ⟨?_, ?_⟩
      · show (b - a) * (b - a) + su sq (df Y X) = (a - b) * (a - b) + su sq (df X Y)
        rw [i1]; grind
      · show (b - a) + su ix (df Y X) = -((a - b) + su ix (df X Y))
        rw [i2]; omega
theorem vr_swap (X Y : List Int) (h : X.length = Y.length) : vr (df Y X) = vr (df X Y) := by
  obtain ⟨a, b⟩ := df_swap X Y
  unfold vr
  rw [a, b, df_len h, df_len h.symm, h, Int.neg_mul_neg]
end Go.Proofs.YtnjojdmmalmhaaaGreatDoor.Wi
namespace Go.Proofs.YtnjojdmmalmhaaaGreatDoor.Ra
/-- the greatest common divisor, as an integer -/
def gd (a b : Int) : Int := (Nat.gcd a.toNat b.toNat : Nat)
theorem gd_zero {a : Int} (h : 0 ≤ a) : gd a 0 = a := by
  unfold gd
  simp
  omega
theorem gd_step {a b : Int} (ha : 0 ≤ a) (hb : 0 < b) : gd b (a % b) = gd a b := by
  unfold gd
  have e : (a % b).toNat = a.toNat % b.toNat := by
    rw [Int.toNat_emod ha (by omega)]
  rw [e, Nat.gcd_comm a.toNat, Nat.gcd_rec b.toNat a.toNat, Nat.gcd_comm]
theorem gd_nonneg (a b : Int) : 0 ≤ gd a b := by unfold gd; omega
theorem gd_comm (a b : Int) : gd a b = gd b a := by unfold gd; rw [Nat.gcd_comm]
theorem gd_pos {a b : Int} (h : 0 < b) : 1 ≤ gd a b := by
  unfold gd
  have : 0 < Nat.gcd a.toNat b.toNat := Nat.gcd_pos_of_pos_right _ (by omega)
  omega
theorem gd_le_right {a b : Int} (h : 0 < b) : gd a b ≤ b := by
  unfold gd
  have : Nat.gcd a.toNat b.toNat ≤ b.toNat := Nat.gcd_le_right _ (by omega)
  omega
theorem gd_dvd_left {a b : Int} (h : 0 ≤ a) : gd a b ∣ a := by
  unfold gd
  have := Nat.gcd_dvd_left a.toNat b.toNat
  have e : a = (a.toNat : Int) := by omega
  rw [e]
  exact_mod_cast this
theorem gd_dvd_right {a b : Int} (h : 0 ≤ b) : gd a b ∣ b := by rw [gd_comm]; exact gd_dvd_left h
/-- the greatest common divisor of the quotients is 1 -/
theorem gd_quot {a b : Int} (ha : 0 ≤ a) (hb : 0 < b) : gd (a / gd a b) (b / gd a b) = 1 := by
  have hp := gd_pos (a := a) hb
  have dv : ∀ {x y : Int}, 0 ≤ x → 0 ≤ y → (x / y).toNat = x.toNat / y.toNat := by
    intro x y hx hy
    obtain ⟨u, rfl⟩ := Int.eq_ofNat_of_zero_le hx
    obtain ⟨v, rfl⟩ := Int.eq_ofNat_of_zero_le hy
    rfl
  have e1 : (a / gd a b).toNat = a.toNat / Nat.gcd a.toNat b.toNat := dv ha (by omega)
  have e2 : (b / gd a b).toNat = b.toNat / Nat.gcd a.toNat b.toNat := dv (by omega) (by omega)
  have := Nat.coprime_div_gcd_div_gcd (m := a.toNat) (n := b.toNat) (Nat.gcd_pos_of_pos_right _ (by omega))
  unfold Nat.Coprime at this
  show ((Nat.gcd (a / gd a b).toNat (b / gd a b).toNat : Nat) : Int) = 1
  rw [e1, e2, this]; rfl
theorem quot_mul {a d : Int} (h : d ∣ a) : a / d * d = a := Int.ediv_mul_cancel h
/-- within the limits -/
def RIn (n d : Int) : Prop := 0 ≤ n ∧ n ≤ 2305843009213693952 ∧ 1 ≤ d ∧ d ≤ 1152921504606846976
/-- a valid ratio -/
def RV (n d : Int) : Prop := RIn n d ∧ gd n d = 1
open Classical in
noncomputable def pb (p : Prop) : Bool := decide p
open Classical in
theorem pb_yes {p : Prop} (h : p) : pb p = true := by unfold pb; exact decide_eq_true h
open Classical in
theorem pb_no {p : Prop} (h : ¬ p) : pb p = false := by unfold pb; exact decide_eq_false h
open Classical in
theorem of_pb {p : Prop} (h : pb p = true) : p := by unfold pb at h; exact of_decide_eq_true h
open Classical in
theorem of_not_pb {p : Prop} (h : pb p = false) : ¬ p := by unfold pb at h; exact of_decide_eq_false h
/-- the answers of inRange and Valid -/
noncomputable def rin (n d : Int) : Bool := pb (RIn n d)
noncomputable def rv (n d : Int) : Bool := pb (RV n d)
theorem rin_yes {n d : Int} (h : RIn n d) : rin n d = true := pb_yes h
theorem rin_no {n d : Int} (h : ¬ RIn n d) : rin n d = false := pb_no h
theorem rv_yes {n d : Int} (h : RV n d) : rv n d = true := pb_yes h
theorem rv_no {n d : Int} (h : ¬ RV n d) : rv n d = false := pb_no h
theorem of_rin {n d : Int} (h : rin n d = true) : RIn n d := of_pb h
theorem of_rv {n d : Int} (h : rv n d = true) : RV n d := of_pb h
theorem of_not_rv {n d : Int} (h : rv n d = false) : ¬ RV n d := of_not_pb h
/-- the error of Make -/
def MOk (n d : Int) : Prop := 0 ≤ n ∧ 1 ≤ d ∧ RIn (n / gd n d) (d / gd n d)
theorem mok_rv {n d : Int} (h : MOk n d) : RV (n / gd n d) (d / gd n d) := ⟨h.2.2, gd_quot h.1 (by have := h.2.1; omega)⟩
/-- the order of valid ratios -/
def cmpI (a b : Int) : Int := if a < b then -1 else if b < a then 1 else 0
def rc (n d m e : Int) : Int := cmpI (n * e) (m * d)
def orI (x y : Int) : Int := if x = 0 then y else x
theorem cmp_wide {a b : Int} : orI (cmpI (a / 18446744073709551616) (b / 18446744073709551616)) (cmpI (a % 18446744073709551616) (b % 18446744073709551616)) = cmpI a b := by
  unfold orI cmpI
  repeat' split
  all_goals omega
theorem cmpI_lt {a b : Int} (h : a < b) : cmpI a b = -1 := by unfold cmpI; rw [if_pos h]
theorem cmpI_gt {a b : Int} (h : b < a) : cmpI a b = 1 := by unfold cmpI; rw [if_neg (by omega), if_pos h]
theorem cmpI_eq {a b : Int} (h : a = b) : cmpI a b = 0 := by unfold cmpI; rw [if_neg (by omega), if_neg (by omega)]
/-- what Cmp returns -/
noncomputable def rcmp (n d m e : Int) : Int := if rv n d = true ∧ rv m e = true then cmpI (n * e) (m * d) else 0
theorem rcmp_in {n d m e : Int} (h : rv n d = true) (k : rv m e = true) : rcmp n d m e = cmpI (n * e) (m * d) := by unfold rcmp; rw [if_pos ⟨h, k⟩]
theorem rcmp_out {n d m e : Int} (h : rv n d = false ∨ rv m e = false) : rcmp n d m e = 0 := by
  unfold rcmp
  rw [if_neg]
  rintro ⟨a, b⟩
  rcases h with h | h
  · rw [h] at a; cases a
  · rw [h] at b; cases b
theorem gd_mul {a b f : Int} (ha : 0 ≤ a) (hb : 0 ≤ b) (hf : 0 ≤ f) : gd (a * f) (b * f) = gd a b * f := by
  obtain ⟨x, rfl⟩ := Int.eq_ofNat_of_zero_le ha
  obtain ⟨y, rfl⟩ := Int.eq_ofNat_of_zero_le hb
  obtain ⟨z, rfl⟩ := Int.eq_ofNat_of_zero_le hf
  have e1 : ((x : Int) * z).toNat = x * z := by rw [← Int.natCast_mul, Int.toNat_natCast]
  have e2 : ((y : Int) * z).toNat = y * z := by rw [← Int.natCast_mul, Int.toNat_natCast]
  unfold gd
  rw [e1, e2, Nat.gcd_mul_right, Int.natCast_mul]
  simp
theorem quot_scale {a g f : Int} (hf : 0 < f) : a * f / (g * f) = a / g := Int.mul_ediv_mul_of_pos_left _ _ hf
theorem rv_eq {n d m e : Int} (h : RV n d) (k : RV m e) (he : n * e = m * d) : n = m ∧ d = e := by
  obtain ⟨⟨n0, _, d0, _⟩, hg⟩ := h
  obtain ⟨⟨m0, _, e0, _⟩, kg⟩ := k
  obtain ⟨x, rfl⟩ := Int.eq_ofNat_of_zero_le n0
  obtain ⟨y, rfl⟩ := Int.eq_ofNat_of_zero_le (show 0 ≤ d by omega)
  obtain ⟨u, rfl⟩ := Int.eq_ofNat_of_zero_le m0
  obtain ⟨v, rfl⟩ := Int.eq_ofNat_of_zero_le (show 0 ≤ e by omega)
  have hn : x * v = u * y := by exact_mod_cast he
  have g1 : Nat.gcd x y = 1 := by unfold gd at hg; simp at hg; exact_mod_cast hg
  have g2 : Nat.gcd u v = 1 := by unfold gd at kg; simp at kg; exact_mod_cast kg
  have d1 : y ∣ v := Nat.Coprime.dvd_of_dvd_mul_left (k := y) (m := x) (Nat.Coprime.symm g1) (by rw [hn]; exact Nat.dvd_mul_left _ _)
  have d2 : v ∣ y := Nat.Coprime.dvd_of_dvd_mul_left (k := v) (m := u) (Nat.Coprime.symm g2) (by rw [← hn]; exact Nat.dvd_mul_left _ _)
  have hv : y = v := Nat.dvd_antisymm d1 d2
  subst hv
  have : x = u := Nat.eq_of_mul_eq_mul_right (by omega) hn
  exact ⟨by rw [this], rfl⟩
/-- what Make returns for small numbers -/
theorem make_facts {n d : Int} (h0 : 0 ≤ n) (h1 : 1 ≤ d) (h2 : n ≤ 2305843009213693952) (h3 : d ≤ 1152921504606846976) :
    0 ≤ n / gd n d ∧ n / gd n d ≤ n ∧ 1 ≤ d / gd n d ∧ d / gd n d ≤ d ∧ n / gd n d * gd n d = n ∧ d / gd n d * gd n d = d ∧ RV (n / gd n d) (d / gd n d) ∧ n / gd n d * d = n * (d / gd n d) := by
  have g1 := gd_pos (a := n) (b := d) (by omega)
  have a1 := quot_mul (gd_dvd_left (b := d) h0)
  have a2 := quot_mul (gd_dvd_right (a := n) (b := d) (by omega))
  have b0 : 0 ≤ n / gd n d := Int.ediv_nonneg h0 (by omega)
  have b1 : n / gd n d ≤ n := Int.ediv_le_self _ h0
  have b2 : 0 ≤ d / gd n d := Int.ediv_nonneg (by omega) (by omega)
  have b3 : d / gd n d ≤ d := Int.ediv_le_self _ (by omega)
  have b4 : d / gd n d ≠ 0 := by intro h; rw [h] at a2; omega
  refine ⟨b0, b1, by omega, b3, a1, a2, ⟨⟨b0, by omega, by omega, by omega⟩, gd_quot h0 (by omega)⟩, ?_⟩
  have e1 : n / gd n d * d = n / gd n d * (d / gd n d * gd n d) := by rw [a2]
  have e2 : n * (d / gd n d) = n / gd n d * gd n d * (d / gd n d) := by rw [a1]
  rw [e1, e2]
  grind
theorem cross_eq {x0 x1 y0 y1 g h a b c d : Int} (e1 : x0 * g = a) (e2 : x1 * g = b) (e3 : y0 * h = c) (e4 : y1 * h = d) : a * d = x0 * y1 * (g * h) ∧ c * b = y0 * x1 * (g * h) := by
  subst e1 e2 e3 e4
  exact ⟨by grind, by grind⟩
theorem cross_lt {u v k a b : Int} (hk : 0 < k) (ha : a = u * k) (hb : b = v * k) : (a < b ↔ u < v) ∧ (a = b ↔ u = v) := by
  subst ha hb
  refine ⟨Int.mul_lt_mul_right hk, ?_⟩
  constructor
  · intro h; exact Int.eq_of_mul_eq_mul_right (by omega) h
  · intro h; rw [h]
theorem cmpI_ge {a b : Int} (h : b ≤ a) : decide (cmpI a b < 0) = false := by
  unfold cmpI
  rw [if_neg (by omega)]
  split <;> decide
theorem gd_one (a : Int) : gd a 1 = 1 := by unfold gd; simp
/-- the facts of Floor and Ceil: the integers below and above -/
theorem round_facts {n d : Int} (h : RV n d) : 0 ≤ n / d ∧ n / d ≤ n ∧ n / d * d ≤ n * 1 ∧ (d = 1 ∧ n % d = 0 ∧ n / d = n ∨ d ≠ 1 ∧ n % d ≠ 0 ∧ n * 1 ≤ (n / d + 1) * d ∧ n / d + 1 ≤ 2305843009213693952) := by
  obtain ⟨⟨n0, n1, d0, d1⟩, hg⟩ := h
  have e1 := Int.emod_add_mul_ediv n d
  have e2 := Int.emod_nonneg n (b := d) (by omega)
  have e3 := Int.emod_lt_of_pos n (b := d) (by omega)
  have e4 : d * (n / d) = n / d * d := Int.mul_comm _ _
  have q0 : 0 ≤ n / d := Int.ediv_nonneg n0 (by omega)
  have q1 : n / d ≤ n := Int.ediv_le_self _ n0
  refine ⟨q0, q1, by omega, ?_⟩
  rcases Classical.em (d = 1) with hd | hd
  · subst hd
    exact .inl ⟨rfl, by omega, by omega⟩
  · refine .inr ⟨hd, fun hz => hd ?_, ?_, ?_⟩
    · have hdv : d ∣ n := Int.dvd_of_emod_eq_zero hz
      have : gd n d = d := by
        obtain ⟨x, rfl⟩ := Int.eq_ofNat_of_zero_le n0
        obtain ⟨y, rfl⟩ := Int.eq_ofNat_of_zero_le (show 0 ≤ d by omega)
        unfold gd
        simp only [Int.toNat_natCast]
        rw [Nat.gcd_eq_right (by exact_mod_cast hdv)]
      omega
    · have : (n / d + 1) * d = n / d * d + d := by grind
      omega
    · have : 2 * (n / d) ≤ d * (n / d) := Int.mul_le_mul_of_nonneg_right (by omega) q0
      omega
theorem rcmp_three {n d m e : Int} (h : RV n d) (k : RV m e) : (rcmp n d m e = -1 ∧ n * e < m * d) ∨ (rcmp n d m e = 0 ∧ n * e = m * d) ∨ (rcmp n d m e = 1 ∧ m * d < n * e) := by
  rw [rcmp_in (rv_yes h) (rv_yes k)]
  rcases Int.lt_trichotomy (n * e) (m * d) with g | g | g
  · exact .inl ⟨cmpI_lt g, g⟩
  · exact .inr (.inl ⟨cmpI_eq g, g⟩)
  · exact .inr (.inr ⟨cmpI_gt g, g⟩)
theorem rcmp_turn {n d m e : Int} (h : RV n d) (k : RV m e) : rcmp m e n d = -rcmp n d m e := by
  rw [rcmp_in (rv_yes h) (rv_yes k), rcmp_in (rv_yes k) (rv_yes h)]
  rcases Int.lt_trichotomy (n * e) (m * d) with g | g | g
  · rw [cmpI_lt g, cmpI_gt g]; rfl
  · rw [cmpI_eq g, cmpI_eq g.symm]; rfl
  · rw [cmpI_gt g, cmpI_lt g]
theorem rcmp_self {n d : Int} (h : RV n d) : rcmp n d n d = 0 := by
  rw [rcmp_in (rv_yes h) (rv_yes h)]; exact cmpI_eq rfl
theorem le_trans_frac {n1 d1 n2 d2 n3 d3 : Int} (h1 : 1 ≤ d1) (h2 : 1 ≤ d2) (h3 : 1 ≤ d3) (a : n1 * d2 ≤ n2 * d1) (b : n2 * d3 ≤ n3 * d2) : n1 * d3 ≤ n3 * d1 := by
  have e1 := Int.mul_le_mul_of_nonneg_right a (show 0 ≤ d3 by omega)
  have e2 := Int.mul_le_mul_of_nonneg_right b (show 0 ≤ d1 by omega)
  have e3 : n2 * d1 * d3 = n2 * d3 * d1 := by grind
  have e4 : n1 * d2 * d3 = n1 * d3 * d2 := by grind
  have e5 : n3 * d2 * d1 = n3 * d1 * d2 := by grind
  exact Int.le_of_mul_le_mul_right (show n1 * d3 * d2 ≤ n3 * d1 * d2 by omega) (show 0 < d2 by omega)
theorem rcmp_le {n d m e : Int} (h : RV n d) (k : RV m e) : (rcmp n d m e ≤ 0 ↔ n * e ≤ m * d) ∧ (0 ≤ rcmp n d m e ↔ m * d ≤ n * e) := by
  rcases rcmp_three h k with ⟨e1, e2⟩ | ⟨e1, e2⟩ | ⟨e1, e2⟩ <;> rw [e1] <;> constructor <;> constructor <;> intro _ <;> omega
theorem rcmp_trans {n1 d1 n2 d2 n3 d3 : Int} (h1 : RV n1 d1) (h2 : RV n2 d2) (h3 : RV n3 d3) :
    (rcmp n1 d1 n2 d2 ≤ 0 → rcmp n2 d2 n3 d3 ≤ 0 → rcmp n1 d1 n3 d3 ≤ 0) ∧ (0 ≤ rcmp n1 d1 n2 d2 → 0 ≤ rcmp n2 d2 n3 d3 → 0 ≤ rcmp n1 d1 n3 d3) := by
  have p1 := h1.1.2.2.1
  have p2 := h2.1.2.2.1
  have p3 := h3.1.2.2.1
  constructor
  · intro a b
    exact (rcmp_le h1 h3).1.2 (le_trans_frac p1 p2 p3 ((rcmp_le h1 h2).1.1 a) ((rcmp_le h2 h3).1.1 b))
  · intro a b
    exact (rcmp_le h1 h3).2.2 (le_trans_frac p3 p2 p1 ((rcmp_le h2 h3).2.1 b) ((rcmp_le h1 h2).2.1 a))
theorem rcmp_same {n d m e : Int} (h : RV n d) (k : RV m e) : rcmp n d m e = 0 ↔ n = m ∧ d = e := by
  rcases rcmp_three h k with ⟨e1, e2⟩ | ⟨e1, e2⟩ | ⟨e1, e2⟩ <;> rw [e1]
  · constructor
    · intro x; omega
    · rintro ⟨rfl, rfl⟩; omega
  · exact ⟨fun _ => rv_eq h k e2, fun _ => rfl⟩
  · constructor
    · intro x; omega
    · rintro ⟨rfl, rfl⟩; omega
end Go.Proofs.YtnjojdmmalmhaaaGreatDoor.Ra
namespace Go.Proofs.YtnjojdmmalmhaaaGreatDoor.Ra
open Go.ChangeShapes Go.WideShapes Go.RowKit Wo
set_option linter.unusedVariables false
end Go.Proofs.YtnjojdmmalmhaaaGreatDoor.Ra
