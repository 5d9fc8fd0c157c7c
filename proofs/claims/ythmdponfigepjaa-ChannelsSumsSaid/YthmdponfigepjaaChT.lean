/- channels.search.least: the least cost, for a cost function that is together. -/
import Derived.Test.YthmdponfigepjaaChE
import Derived.Shelf.Abstract
import Derived.BigQuiet
import Derived.Deep.DeepCutAuto
namespace Go.Proofs.Ythmdponfigepjaa.Ch
open Go.ChangeShapes Go.WideShapes Go.RowKit Wo Sr Wi Nr
set_option linter.unusedVariables false
set_option maxHeartbeats 16000000 in
set_option maxRecDepth 100000 in
theorem least_together (n m : Nat) (b : Int) (f : Nat → Nat → Int) (n1 : 1 ≤ n) (n2 : n ≤ 33) (m1 : 1 ≤ m) (m2 : m ≤ 33) (b0 : 0 ≤ b) (b32 : b ≤ 32) (hf : Fb f) (z1 z2 : Value) (w : World)
    (HC : ∀ W, Bel w W → ∀ i j : Nat, i < n → j < m → Calls Try.prog 42 #[.int .i64 (i : Int), .int .i64 (j : Int), z1, z2] W fun e W' => e = .returned (.int .i64 (f i j)) ∧ Bel W W') :
    Calls Try.prog 41 #[.agg #[.int .i64 (n : Int), .int .i64 (m : Int), .int .i64 b, .func (.func 42) #[] #[z1, z2]]] w fun e w' => e = .returned (.int .i64 (wg f b n m)) ∧ Bel w w' := by
  have HCC := Lib.hid HC
  have i1 : 1 ≤ (n : Int) := by omega
  have i2 : (n : Int) ≤ 33 := by omega
  have i3 : 1 ≤ (m : Int) := by omega
  have i4 : (m : Int) ≤ 33 := by omega
  have HE : Hid (∀ i j, i ≤ 64 → j ≤ 64 → 0 ≤ wg f b i j ∧ wg f b i j ≤ 4611686018427387904) := fun i j hi hj => ⟨wg_nn hf i j, wg_hi hf b0 i j hi hj⟩
  have HFB := Lib.hid hf
  have HBO : Hid (∀ W, _) := fun W => border_ok n m b 42 #[z1, z2] (by omega) W
  clear HC hf
  go_enter Try.func41, Try.ntmps41
  go_upto_region 1 with fail
  have HW0 : Hid (Bk (w.alloc (.cells #[.int .i64 (n : Int), .int .i64 (m : Int), .int .i64 b, .func (.func 42) #[] #[z1, z2]] 64)) w.heap.size 64 #[.int .i64 (n : Int), .int .i64 (m : Int), .int .i64 b, .func (.func 42) #[] #[z1, z2]]) := Bk.nw _ _ _
  have HWB : Hid (Bel w (w.alloc (.cells #[.int .i64 (n : Int), .int .i64 (m : Int), .int .i64 b, .func (.func 42) #[] #[z1, z2]] 64))) := Bel.rf.al _
  go_cut [3, 4] (fun s3 s4 wx => ∃ (p q : Nat) (W : World), W = wx ∧ s3 = .slice (some ⟨p, 0, none⟩) (m + 1) (m + 1) ∧ s4 = .slice (some ⟨q, 0, none⟩) (m + 1) (m + 1) ∧ Tab w wx p q m (List.replicate (m + 1) far) (List.replicate (m + 1) far) #[.int .i64 (n : Int), .int .i64 (m : Int), .int .i64 b, .func (.func 42) #[] #[z1, z2]])
  case first =>
    have k0 := HW0.out.cell 0
    have k1 := HW0.out.cell 1
    have k2 := HW0.out.cell 2
    have k3 := HW0.out.cell 3
    have KS : Hid (∀ W', Bel (w.alloc (.cells #[.int .i64 (n : Int), .int .i64 (m : Int), .int .i64 b, .func (.func 42) #[] #[z1, z2]] 64)) W' → ((fun w' => w'.cell? ⟨w.heap.size, 0, none⟩ = some (.int .i64 (n : Int)) ∧ w'.cell? ⟨w.heap.size, 1, none⟩ = some (.int .i64 (m : Int)) ∧ w'.cell? ⟨w.heap.size, 2, none⟩ = some (.int .i64 b) ∧ w'.cell? ⟨w.heap.size, 3, none⟩ = some (.func (.func 42) #[] #[z1, z2])) W')) := fun W' h => ⟨h.kp k0, h.kp k1, h.kp k2, h.kp k3⟩
    have M1 : True := trivial
    clear k0 k1 k2 k3
    go_region_held3 (fun w' => w'.cell? ⟨w.heap.size, 0, none⟩ = some (.int .i64 (n : Int)) ∧ w'.cell? ⟨w.heap.size, 1, none⟩ = some (.int .i64 (m : Int)) ∧ w'.cell? ⟨w.heap.size, 2, none⟩ = some (.int .i64 b) ∧ w'.cell? ⟨w.heap.size, 3, none⟩ = some (.func (.func 42) #[] #[z1, z2]))
      (exact KS.out _ (by repeat (first | exact Bel.rf | (with_reducible refine Bel.drwN ?_ _) | (with_reducible refine Bel.drw ?_) | (refine Bel.tr ?_ (by assumption)))))
      (first
        | (go_at_call 62; clear M1; refine (HBO.out _).mono ?_; rintro r s1 ⟨p, rfl, hp1, hp2, hp3, hp4⟩)
        | (go_at_call 62; refine (HBO.out _).mono ?_; rintro r s2 ⟨q, rfl, hq1, hq2, hq3, hq4⟩))
    all_goals
      go_wp2_with fail
      go_meet
      have hz : (w.alloc (.cells #[.int .i64 (n : Int), .int .i64 (m : Int), .int .i64 b, .func (.func 42) #[] #[z1, z2]] 64)).heap.size = w.heap.size + 1 := World.size_alloc _ _
      have g1 : (w.alloc (.cells #[.int .i64 (n : Int), .int .i64 (m : Int), .int .i64 b, .func (.func 42) #[] #[z1, z2]] 64)).heap.size ≤ p := hp1
      have g2 : p < q := by have := hq1; have h3 := hp2; first | exact Nat.lt_of_lt_of_le h3 this | omega
      have hp5 := (Bel.drw Bel.rf).tr hp4
      have T : Tab w s2 p q m (List.replicate (m + 1) far) (List.replicate (m + 1) far) #[.int .i64 (n : Int), .int .i64 (m : Int), .int .i64 b, .func (.func 42) #[] #[z1, z2]] := ⟨by omega, by omega, by omega, hp3.bel hq4, hq3, by simp, (HW0.out.bel hp5).bel hq4, (HWB.out.tr hp5).tr hq4⟩
      first
        | exact ⟨p, q, _, rfl, rfl, rfl, T⟩
        | exact ⟨q, p, _, rfl, rfl, rfl, T.sw (by simp)⟩
  case rest =>
    obtain ⟨p, q, wx, hwx, rfl, rfl, hT⟩ := hcut
    subst hwx
    have HT := Lib.hid hT
    have c0 := bk_sz hT.2.2.2.1 (m := m) (t := 0) (by simp) (by omega)
    have f0 := hT.2.2.2.1.fr 0
    have hK0 := (hT.sw (by simp)).st 0 0
    have HT0 : Hid (Tab w (wx.setCell ⟨p, 0, none⟩ (.int .i64 0)) p q m ((List.replicate (m + 1) far).set 0 0) (List.replicate (m + 1) far) #[.int .i64 (n : Int), .int .i64 (m : Int), .int .i64 b, .func (.func 42) #[] #[z1, z2]]) := hK0.sw (by simp)
    have d0 := HT0.out.2.2.2.2.2.2.1.cell 0
    have HRG : Hid (Rg f b 0 m ((List.replicate (m + 1) far).set 0 0)) := ⟨by simp, fun t ht => by
      rw [set_at]
      rcases t with _ | t
      · rw [if_pos (by simp), wg_00]
      · rw [if_neg (by simp), wg_0s, List.getD_eq_getElem?_getD, List.getElem?_replicate, if_pos (by omega)]; rfl⟩
    have mk1 : (0 : Int) < ((m + 1 : Nat) : Int) := by omega
    have mk2 : 0 < m + 1 := by omega
    clear hT hK0 HT HW0 HWB
    go_wp2
    go_loopw [3, 4, 15] (fun s3 s4 s15 wr => ∃ (i : Nat) (V : World) (p q : Nat) (Zp Zq : List Int), V = wr ∧ i ≤ n ∧ s3 = .slice (some ⟨p, 0, none⟩) (m + 1) (m + 1) ∧ s4 = .slice (some ⟨q, 0, none⟩) (m + 1) (m + 1) ∧ s15 = .int .i64 (i : Int) ∧ Rg f b i m Zp ∧ Tab w wr p q m Zp Zq #[.int .i64 (n : Int), .int .i64 (m : Int), .int .i64 b, .func (.func 42) #[] #[z1, z2]]) (fun _ _ s15 _ => n - (intOf s15).toNat)
    case atStart => exact ⟨0, _, p, q, _, _, rfl, by omega, rfl, rfl, rfl, HRG.out, HT0.out⟩
    case round =>
      clear HRG HT0 c0 f0 d0
      obtain ⟨i, wr, p, q, Zp, Zq, hwr, hin, rfl, rfl, rfl, hrp, hT⟩ := hrel
      subst hwr
      have HRP := Lib.hid hrp
      rcases Nat.lt_or_ge i n with hlt | hge
      · have ini : (i : Int) < (n : Int) := by omega
        have q0 := hT.2.2.2.2.1.fr 0
        have cq := bk_sz hT.2.2.2.2.1 hT.2.2.2.2.2.1 (t := 0) (by omega)
        have HT1 := Lib.hid (hT.st 0 4611686018427387904)
        have HZ1 : Hid (∀ t, t ≤ 0 → (Zq.set 0 4611686018427387904).getD t 0 = wg f b (i + 1) t) := fun t ht => by
          obtain rfl : t = 0 := by omega
          rw [set_at, if_pos ⟨rfl, by have := hT.2.2.2.2.2.1; omega⟩, wg_s0]; rfl
        have d1 := HT1.out.2.2.2.2.2.2.1.cell 1
        clear hT hrp
        go_wp2
        go_loopw [22] (fun s22 wy => ∃ (j : Nat) (V : World) (Z : List Int), V = wy ∧ j ≤ m ∧ s22 = .int .i64 (j : Int) ∧ (∀ t, t ≤ j → Z.getD t 0 = wg f b (i + 1) t) ∧ Tab w wy p q m Zp Z #[.int .i64 (n : Int), .int .i64 (m : Int), .int .i64 b, .func (.func 42) #[] #[z1, z2]]) (fun s22 _ => m - (intOf s22).toNat)
        case atStart => exact ⟨0, _, _, rfl, by omega, rfl, HZ1.out, HT1.out⟩
        case round =>
          clear HZ1 HT1 cq q0 d1
          obtain ⟨j, wy, Z, hwr, hjm, rfl, hzt, hT⟩ := hrel
          subst hwr
          have HZT := Lib.hid hzt
          rcases Nat.lt_or_ge j m with hlt2 | hge2
          · obtain ⟨j', hj'⟩ : ∃ j', j + 1 = j' := ⟨_, rfl⟩
            have hji : (j : Int) + 1 = (j' : Int) := by omega
            have j'm : j' ≤ m := by omega
            have j'k : j' < m + 1 := by omega
            have j'i : (j' : Int) < (m : Int) + 1 := by omega
            have j'i2 : (j' : Int) < ((m + 1 : Nat) : Int) := by omega
            have jk : j < m + 1 := by omega
            have jki : (j : Int) < (m : Int) + 1 := by omega
            have jki2 : (j : Int) < ((m + 1 : Nat) : Int) := by omega
            have ji : (j : Int) < (m : Int) := by omega
            have zj : -9223372036854775808 ≤ (j' : Int) ∧ (j' : Int) ≤ 9223372036854775807 := by omega
            have cz := bk_sz hT.2.2.2.2.1 hT.2.2.2.2.2.1 (t := j') (by omega)
            have fz := hT.2.2.2.2.1.fr j'
            obtain ⟨zz, hzz⟩ : ∃ z, Z.getD j' 0 = z := ⟨_, rfl⟩
            rw [hzz] at cz
            obtain ⟨e0, he0⟩ : ∃ d, (i : Int) - (j : Int) = d := ⟨_, rfl⟩
            have zd : -9223372036854775808 ≤ e0 ∧ e0 ≤ 9223372036854775807 := by omega
            have HAB : Hid (∀ W, _) := fun W => abs_eq e0 (by omega) (by omega) W
            have HBD : Hid (ab e0 ≤ b ↔ Bnd b i j) := by
              show _ ↔ _
              unfold ab Bnd
              split <;> constructor <;> intro h <;> (try constructor) <;> omega
            obtain ⟨r0, hr0⟩ : ∃ r, ab e0 = r := ⟨_, rfl⟩
            rw [hr0] at HAB HBD
            have hnn := hT.2.2.2.2.2.1
            have HS1 := Lib.hid (hT.st j' 4611686018427387904)
            have d2 := HS1.out.2.2.2.2.2.2.1.cell 2
            have HIJ := Lib.hid (And.intro hj' hnn)
            have wj2 : IntKind.i64.wrap (j' : Int) = (j' : Int) := IntWalk.i64_in _ zj
            have wd2 : IntKind.i64.wrap e0 = e0 := IntWalk.i64_in _ zd
            clear hT hzt hj' hzz hr0 zj zd hnn
            go_wp2_with fail
            go_quiet ((go_at_call_of 60 (Value.int IntKind.i64 e0); exact Calls.quiet_of_same (HAB.out _)))
            rcases Int.lt_or_le b r0 with hout | hinn
            · have HZ2 : Hid (∀ t, t ≤ j' → (Z.set j' 4611686018427387904).getD t 0 = wg f b (i + 1) t) := fun t ht => by
                rw [set_at]
                rcases Nat.lt_or_ge t j' with h | h
                · rw [if_neg (by omega)]; exact HZT.out t (by have := HIJ.out.1; omega)
                · obtain rfl : t = j' := by omega
                  rw [if_pos ⟨rfl, by have := HIJ.out.2; omega⟩, ← HIJ.out.1, wg_out _ _ _ _ (fun h => by have := HBD.out.2 h; omega)]; rfl
              have hno : ¬ r0 ≤ b := by omega
              go_wp2
              go_roundw
              case rel => exact ⟨j', _, _, rfl, j'm, by first | rfl | go_num, HZ2.out, by first | exact HS1.out | exact HS1.out.bel (Bel.drwN Bel.rf _) | exact HS1.out.bel (Bel.drw Bel.rf)⟩
              case measure => simp [intOf]; omega
            · have ee := wg_in f b i j (HBD.out.1 hinn)
              have b1 := HE.out i j (by omega) (by omega)
              have b2 := HE.out i j' (by omega) (by omega)
              have b3 := HE.out (i + 1) j (by omega) (by omega)
              have b4 := HFB.out i j
              rw [HIJ.out.1] at ee
              obtain ⟨a0, ha0⟩ : ∃ v, wg f b i j = v := ⟨_, rfl⟩
              obtain ⟨h0, hh0⟩ : ∃ v, wg f b i j' = v := ⟨_, rfl⟩
              obtain ⟨g0, hg0⟩ : ∃ v, wg f b (i + 1) j = v := ⟨_, rfl⟩
              obtain ⟨r1, hr1⟩ : ∃ v, f i j = v := ⟨_, rfl⟩
              rw [ha0] at b1 ee
              rw [hh0] at b2 ee
              rw [hg0] at b3 ee
              rw [hr1] at b4 ee
              have k1 := bk_sz HS1.out.2.2.2.1 HRP.out.1 (t := j) (by omega)
              have k2 := bk_sz HS1.out.2.2.2.1 HRP.out.1 (t := j') j'm
              have k3 := bk_sz HS1.out.2.2.2.2.1 HS1.out.2.2.2.2.2.1 (t := j) (by omega)
              have k4 := HS1.out.2.2.2.2.2.2.1.cell 3
              rw [HRP.out.2 j (by omega), ha0] at k1
              rw [HRP.out.2 j' j'm, hh0] at k2
              rw [set_at, if_neg (by have := HIJ.out.1; omega), HZT.out j (Nat.le_refl _), hg0] at k3
              have hmn := mn3_if a0 h0 g0
              have hcase : (h0 < a0 ∧ g0 < h0 ∧ mn3 a0 h0 g0 = g0) ∨ (h0 < a0 ∧ h0 ≤ g0 ∧ mn3 a0 h0 g0 = h0) ∨ (a0 ≤ h0 ∧ g0 < a0 ∧ mn3 a0 h0 g0 = g0) ∨ (a0 ≤ h0 ∧ a0 ≤ g0 ∧ mn3 a0 h0 g0 = a0) := by
                rw [hmn]
                (repeat' split) <;> omega
              have hne : j ≠ j' := by have := HIJ.out.1; omega
              have hpq := HS1.out.1
              have hBq : w.heap.size ≠ q := by have := HS1.out.2.2.1; omega
              have f3 := HS1.out.2.2.2.2.1.fr j'
              have k5 := bk_sz HS1.out.2.2.2.2.1 HS1.out.2.2.2.2.2.1 (t := j') j'm
              obtain ⟨zy, hzy⟩ : ∃ v, (Z.set j' 4611686018427387904).getD j' 0 = v := ⟨_, rfl⟩
              rw [hzy] at k5
              have KS : Hid (∀ W', Bel (wy.setCell ⟨q, j', none⟩ (.int .i64 4611686018427387904)) W' → W'.cell? ⟨w.heap.size, 3, none⟩ = some (.func (.func 42) #[] #[z1, z2]) ∧ W'.cell? ⟨p, j, none⟩ = some (.int .i64 a0) ∧ W'.cell? ⟨p, j', none⟩ = some (.int .i64 h0) ∧ W'.cell? ⟨q, j, none⟩ = some (.int .i64 g0)) := fun W' h => ⟨h.kp k4, h.kp k1, h.kp k2, h.kp k3⟩
              have CC : Hid (∀ W, Bel (wy.setCell ⟨q, j', none⟩ (.int .i64 4611686018427387904)) W → Calls Try.prog 42 #[.int .i64 (i : Int), .int .i64 (j : Int), z1, z2] W fun e W' => e = .returned (.int .i64 r1) ∧ Bel W W') := fun W h => by
                rw [← hr1]
                exact HCC.out W (HS1.out.2.2.2.2.2.2.2.tr h) i j hlt hlt2
              have hql := HS1.out.2.2.2.2.1.lt
              have KZ : Hid (∀ W', Bel (wy.setCell ⟨q, j', none⟩ (.int .i64 4611686018427387904)) W' → W'.cell? ⟨q, j', none⟩ = some (.int .i64 zy) ∧ W'.frozen? ⟨q, j', none⟩ = false) := fun W' h => ⟨h.kp k5, (h.cells.2 q j' hql).trans f3⟩
              clear ha0 hh0 hg0 hr1 hmn k1 k2 k3 k4 k5 f3 hql hzy cz fz d2
              rcases hcase with ⟨l1, l2, l3⟩ | ⟨l1, l2, l3⟩ | ⟨l1, l2, l3⟩ | ⟨l1, l2, l3⟩
              · rw [l3] at ee
                have HEQ := Lib.hid ee
                have z2b : -9223372036854775808 ≤ r1 + g0 ∧ r1 + g0 ≤ 9223372036854775807 := by omega
                have HZ2 : Hid (∀ t, t ≤ j' → ((Z.set j' 4611686018427387904).set j' (r1 + g0)).getD t 0 = wg f b (i + 1) t) := fun t ht => by
                  rw [set_at, set_at, List.length_set]
                  rcases Nat.lt_or_ge t j' with h | h
                  · rw [if_neg (by omega), if_neg (by omega)]; exact HZT.out t (by have := HIJ.out.1; omega)
                  · obtain rfl : t = j' := by omega
                    rw [if_pos ⟨rfl, by have := HIJ.out.2; omega⟩]
                    exact HEQ.out.symm
                have w2 : IntKind.i64.wrap (r1 + g0) = r1 + g0 := IntWalk.i64_in _ z2b
                have o1 : (g0 < h0) = True := eq_true l2
                clear ee b1 b2 b3 b4 z2b l3
                go_wp2_with fail
                go_region_held3 (fun w' => w'.cell? ⟨w.heap.size, 3, none⟩ = some (.func (.func 42) #[] #[z1, z2]) ∧ w'.cell? ⟨p, j, none⟩ = some (.int .i64 a0) ∧ w'.cell? ⟨p, j', none⟩ = some (.int .i64 h0) ∧ w'.cell? ⟨q, j, none⟩ = some (.int .i64 g0))
                  (first
                    | (refine KS.out _ ?_; (repeat (first | exact Bel.rf | (with_reducible refine Bel.drwN ?_ _) | (with_reducible refine Bel.drw ?_) | (refine Bel.tr ?_ (by assumption)))); done)
                    | (have hk := KS.out s4 (by repeat (first | exact Bel.rf | (with_reducible refine Bel.drwN ?_ _) | (with_reducible refine Bel.drw ?_) | (refine Bel.tr ?_ (by assumption)))); exact ⟨kp_fb hk.1 hBq _, kp_fb hk.2.1 hpq _, kp_fb hk.2.2.1 hpq _, kp_st hk.2.2.2 hne _⟩))
                  ((go_at_call 42; refine (CC.out _ (by repeat (first | exact Bel.rf | (with_reducible refine Bel.drwN ?_ _) | (with_reducible refine Bel.drw ?_) | (refine Bel.tr ?_ (by assumption))))).mono ?_; rintro r s4 ⟨rfl, h4⟩; obtain ⟨kz1, kz2⟩ := KZ.out s4 (by repeat (first | exact Bel.rf | (with_reducible refine Bel.drwN ?_ _) | (with_reducible refine Bel.drw ?_) | (refine Bel.tr ?_ (by assumption))))))
                all_goals
                  have HS3 := Lib.hid ((HS1.out.bel (show Bel _ s4 by repeat (first | exact Bel.rf | (with_reducible refine Bel.drwN ?_ _) | (with_reducible refine Bel.drw ?_) | (refine Bel.tr ?_ (by assumption))))).st j' (r1 + g0))
                  go_wp2
                  go_roundw
                  case rel => exact ⟨j', _, _, rfl, j'm, by first | rfl | go_num, HZ2.out, by first | exact HS3.out | exact HS3.out.bel (Bel.drwN Bel.rf _) | exact HS3.out.bel (Bel.drw Bel.rf)⟩
                  case measure => simp [intOf]; omega
              · rw [l3] at ee
                have HEQ := Lib.hid ee
                have z2b : -9223372036854775808 ≤ r1 + h0 ∧ r1 + h0 ≤ 9223372036854775807 := by omega
                have HZ2 : Hid (∀ t, t ≤ j' → ((Z.set j' 4611686018427387904).set j' (r1 + h0)).getD t 0 = wg f b (i + 1) t) := fun t ht => by
                  rw [set_at, set_at, List.length_set]
                  rcases Nat.lt_or_ge t j' with h | h
                  · rw [if_neg (by omega), if_neg (by omega)]; exact HZT.out t (by have := HIJ.out.1; omega)
                  · obtain rfl : t = j' := by omega
                    rw [if_pos ⟨rfl, by have := HIJ.out.2; omega⟩]
                    exact HEQ.out.symm
                have w2 : IntKind.i64.wrap (r1 + h0) = r1 + h0 := IntWalk.i64_in _ z2b
                have o1 : (g0 < h0) = False := eq_false (by omega)
                clear ee b1 b2 b3 b4 z2b l3
                go_wp2_with fail
                go_region_held3 (fun w' => w'.cell? ⟨w.heap.size, 3, none⟩ = some (.func (.func 42) #[] #[z1, z2]) ∧ w'.cell? ⟨p, j, none⟩ = some (.int .i64 a0) ∧ w'.cell? ⟨p, j', none⟩ = some (.int .i64 h0) ∧ w'.cell? ⟨q, j, none⟩ = some (.int .i64 g0))
                  (first
                    | (refine KS.out _ ?_; (repeat (first | exact Bel.rf | (with_reducible refine Bel.drwN ?_ _) | (with_reducible refine Bel.drw ?_) | (refine Bel.tr ?_ (by assumption)))); done)
                    | (have hk := KS.out s4 (by repeat (first | exact Bel.rf | (with_reducible refine Bel.drwN ?_ _) | (with_reducible refine Bel.drw ?_) | (refine Bel.tr ?_ (by assumption)))); exact ⟨kp_fb hk.1 hBq _, kp_fb hk.2.1 hpq _, kp_fb hk.2.2.1 hpq _, kp_st hk.2.2.2 hne _⟩))
                  ((go_at_call 42; refine (CC.out _ (by repeat (first | exact Bel.rf | (with_reducible refine Bel.drwN ?_ _) | (with_reducible refine Bel.drw ?_) | (refine Bel.tr ?_ (by assumption))))).mono ?_; rintro r s4 ⟨rfl, h4⟩; obtain ⟨kz1, kz2⟩ := KZ.out s4 (by repeat (first | exact Bel.rf | (with_reducible refine Bel.drwN ?_ _) | (with_reducible refine Bel.drw ?_) | (refine Bel.tr ?_ (by assumption))))))
                all_goals
                  have HS3 := Lib.hid ((HS1.out.bel (show Bel _ s4 by repeat (first | exact Bel.rf | (with_reducible refine Bel.drwN ?_ _) | (with_reducible refine Bel.drw ?_) | (refine Bel.tr ?_ (by assumption))))).st j' (r1 + h0))
                  go_wp2
                  go_roundw
                  case rel => exact ⟨j', _, _, rfl, j'm, by first | rfl | go_num, HZ2.out, by first | exact HS3.out | exact HS3.out.bel (Bel.drwN Bel.rf _) | exact HS3.out.bel (Bel.drw Bel.rf)⟩
                  case measure => simp [intOf]; omega
              · rw [l3] at ee
                have HEQ := Lib.hid ee
                have z2b : -9223372036854775808 ≤ r1 + g0 ∧ r1 + g0 ≤ 9223372036854775807 := by omega
                have HZ2 : Hid (∀ t, t ≤ j' → ((Z.set j' 4611686018427387904).set j' (r1 + g0)).getD t 0 = wg f b (i + 1) t) := fun t ht => by
                  rw [set_at, set_at, List.length_set]
                  rcases Nat.lt_or_ge t j' with h | h
                  · rw [if_neg (by omega), if_neg (by omega)]; exact HZT.out t (by have := HIJ.out.1; omega)
                  · obtain rfl : t = j' := by omega
                    rw [if_pos ⟨rfl, by have := HIJ.out.2; omega⟩]
                    exact HEQ.out.symm
                have w2 : IntKind.i64.wrap (r1 + g0) = r1 + g0 := IntWalk.i64_in _ z2b
                have o1 : (h0 < a0) = False := eq_false (by omega)
                clear ee b1 b2 b3 b4 z2b l3
                go_wp2_with fail
                go_region_held3 (fun w' => w'.cell? ⟨w.heap.size, 3, none⟩ = some (.func (.func 42) #[] #[z1, z2]) ∧ w'.cell? ⟨p, j, none⟩ = some (.int .i64 a0) ∧ w'.cell? ⟨p, j', none⟩ = some (.int .i64 h0) ∧ w'.cell? ⟨q, j, none⟩ = some (.int .i64 g0))
                  (first
                    | (refine KS.out _ ?_; (repeat (first | exact Bel.rf | (with_reducible refine Bel.drwN ?_ _) | (with_reducible refine Bel.drw ?_) | (refine Bel.tr ?_ (by assumption)))); done)
                    | (have hk := KS.out s4 (by repeat (first | exact Bel.rf | (with_reducible refine Bel.drwN ?_ _) | (with_reducible refine Bel.drw ?_) | (refine Bel.tr ?_ (by assumption)))); exact ⟨kp_fb hk.1 hBq _, kp_fb hk.2.1 hpq _, kp_fb hk.2.2.1 hpq _, kp_st hk.2.2.2 hne _⟩))
                  ((go_at_call 42; refine (CC.out _ (by repeat (first | exact Bel.rf | (with_reducible refine Bel.drwN ?_ _) | (with_reducible refine Bel.drw ?_) | (refine Bel.tr ?_ (by assumption))))).mono ?_; rintro r s4 ⟨rfl, h4⟩; obtain ⟨kz1, kz2⟩ := KZ.out s4 (by repeat (first | exact Bel.rf | (with_reducible refine Bel.drwN ?_ _) | (with_reducible refine Bel.drw ?_) | (refine Bel.tr ?_ (by assumption))))))
                all_goals
                  have HS3 := Lib.hid ((HS1.out.bel (show Bel _ s4 by repeat (first | exact Bel.rf | (with_reducible refine Bel.drwN ?_ _) | (with_reducible refine Bel.drw ?_) | (refine Bel.tr ?_ (by assumption))))).st j' (r1 + g0))
                  go_wp2
                  go_roundw
                  case rel => exact ⟨j', _, _, rfl, j'm, by first | rfl | go_num, HZ2.out, by first | exact HS3.out | exact HS3.out.bel (Bel.drwN Bel.rf _) | exact HS3.out.bel (Bel.drw Bel.rf)⟩
                  case measure => simp [intOf]; omega
              · rw [l3] at ee
                have HEQ := Lib.hid ee
                have z2b : -9223372036854775808 ≤ r1 + a0 ∧ r1 + a0 ≤ 9223372036854775807 := by omega
                have HZ2 : Hid (∀ t, t ≤ j' → ((Z.set j' 4611686018427387904).set j' (r1 + a0)).getD t 0 = wg f b (i + 1) t) := fun t ht => by
                  rw [set_at, set_at, List.length_set]
                  rcases Nat.lt_or_ge t j' with h | h
                  · rw [if_neg (by omega), if_neg (by omega)]; exact HZT.out t (by have := HIJ.out.1; omega)
                  · obtain rfl : t = j' := by omega
                    rw [if_pos ⟨rfl, by have := HIJ.out.2; omega⟩]
                    exact HEQ.out.symm
                have w2 : IntKind.i64.wrap (r1 + a0) = r1 + a0 := IntWalk.i64_in _ z2b
                have o1 : (h0 < a0) = False := eq_false (by omega)
                have o2 : (g0 < a0) = False := eq_false (by omega)
                clear ee b1 b2 b3 b4 z2b l3
                go_wp2_with fail
                go_region_held3 (fun w' => w'.cell? ⟨w.heap.size, 3, none⟩ = some (.func (.func 42) #[] #[z1, z2]) ∧ w'.cell? ⟨p, j, none⟩ = some (.int .i64 a0) ∧ w'.cell? ⟨p, j', none⟩ = some (.int .i64 h0) ∧ w'.cell? ⟨q, j, none⟩ = some (.int .i64 g0))
                  (first
                    | (refine KS.out _ ?_; (repeat (first | exact Bel.rf | (with_reducible refine Bel.drwN ?_ _) | (with_reducible refine Bel.drw ?_) | (refine Bel.tr ?_ (by assumption)))); done)
                    | (have hk := KS.out s4 (by repeat (first | exact Bel.rf | (with_reducible refine Bel.drwN ?_ _) | (with_reducible refine Bel.drw ?_) | (refine Bel.tr ?_ (by assumption)))); exact ⟨kp_fb hk.1 hBq _, kp_fb hk.2.1 hpq _, kp_fb hk.2.2.1 hpq _, kp_st hk.2.2.2 hne _⟩))
                  ((go_at_call 42; refine (CC.out _ (by repeat (first | exact Bel.rf | (with_reducible refine Bel.drwN ?_ _) | (with_reducible refine Bel.drw ?_) | (refine Bel.tr ?_ (by assumption))))).mono ?_; rintro r s4 ⟨rfl, h4⟩; obtain ⟨kz1, kz2⟩ := KZ.out s4 (by repeat (first | exact Bel.rf | (with_reducible refine Bel.drwN ?_ _) | (with_reducible refine Bel.drw ?_) | (refine Bel.tr ?_ (by assumption))))))
                all_goals
                  have HS3 := Lib.hid ((HS1.out.bel (show Bel _ s4 by repeat (first | exact Bel.rf | (with_reducible refine Bel.drwN ?_ _) | (with_reducible refine Bel.drw ?_) | (refine Bel.tr ?_ (by assumption))))).st j' (r1 + a0))
                  go_wp2
                  go_roundw
                  case rel => exact ⟨j', _, _, rfl, j'm, by first | rfl | go_num, HZ2.out, by first | exact HS3.out | exact HS3.out.bel (Bel.drwN Bel.rf _) | exact HS3.out.bel (Bel.drw Bel.rf)⟩
                  case measure => simp [intOf]; omega
          · obtain rfl : j = m := by omega
            have HTT := Lib.hid hT
            have HRQ : Hid (Rg f b (i + 1) j Z) := ⟨hT.2.2.2.2.2.1, hzt⟩
            clear hT hzt
            go_wp2
            go_roundw
            case rel => exact ⟨i + 1, _, q, p, Z, Zp, rfl, by omega, rfl, rfl, by go_num, HRQ.out, HTT.out.sw HRP.out.1⟩
            case measure => simp [intOf]; omega
      · obtain rfl : i = n := by omega
        have HTT := Lib.hid hT
        have d1 := hT.2.2.2.2.2.2.1.cell 1
        have c1 := bk_sz hT.2.2.2.1 hrp.1 (t := m) (Nat.le_refl _)
        rw [hrp.2 m (Nat.le_refl _)] at c1
        have mk3 : (m : Int) < ((m + 1 : Nat) : Int) := by omega
        have mk4 : (m : Int) < (m : Int) + 1 := by omega
        clear hT hrp
        go_wp2
        go_ret
        exact ⟨rfl, HTT.out.2.2.2.2.2.2.2⟩
end Go.Proofs.Ythmdponfigepjaa.Ch
