/- shapesearchlaw16.bundles: two bundles that fit, and a band. -/
import Derived.Test.YthmdponfigepjaaChS
import Derived.Test.YthmdponfigepjaaNear
namespace Go.Proofs.Ythmdponfigepjaa.Ch
open Go.ChangeShapes Go.WideShapes Go.RowKit Wo Sr Wi
set_option linter.unusedVariables false
/-- the loop's state -/
def Bi (g n m : Nat) (w : World) (a b c d : Nat) (L M : List Int) (s8 s9 s10 : Value) (wr : World) : Prop :=
  ∃ (t i : Nat) (P Q : List Cn) (V : World) (p q : Value), V = wr ∧ p = s8 ∧ q = s9 ∧ s10 = .int .i64 (i : Int) ∧ 1 ≤ t ∧ t + i ≤ 4 ∧ Bu w V g n m t t p q P Q ∧ Cn.ok V w.heap.size n ⟨a, b, L⟩ ∧ Cn.ok V w.heap.size m ⟨c, d, M⟩
set_option maxHeartbeats 8000000 in
theorem bundles_any (g : Nat) (w : World) (h : Ok w g) : Calls Try.prog 18 #[.pointer (some ⟨g, 0, none⟩)] w (SomeB g w) := by
  have HGB := Lib.hid h.lt
  have HO0 := Lib.hid h
  clear h
  go_enter Try.func18, Try.ntmps18
  go_wp2_with fail
  go_at_call 37
  refine (uneven_any g _ HO0.out).mono ?_
  rintro e v2 ⟨a, b, c, d, n, m, L, M, k, rfl, n1, n2, m1, m2, hac, nb, md, k0, k1, k2, k3, hox, hoy, lL, lM, sL, sM, ho2, hc2⟩
  have KX : Cn.ok v2 w.heap.size n ⟨a, b, L⟩ := ⟨hox, lL, sL⟩
  have KY : Cn.ok v2 w.heap.size m ⟨c, d, M⟩ := ⟨hoy, lM, sM⟩
  have hs2 := hc2.sz
  obtain ⟨V2, hV2⟩ : ∃ V, V = (v2.alloc (.cells #[.slice (some ⟨a, 0, none⟩) n b] 22)).alloc (.cells #[.slice (some ⟨c, 0, none⟩) m d] 22) := ⟨_, rfl⟩
  have B2 : Bel v2 V2 := by rw [hV2]; exact (Bel.rf.al _).al _
  have HBU : Hid (Bu w V2 g n m 1 1 (.slice (some ⟨v2.heap.size, 0, none⟩) 1 1) (.slice (some ⟨v2.heap.size + 1, 0, none⟩) 1 1) [⟨a, b, L⟩] [⟨c, d, M⟩]) := by
    refine ⟨ho2.bel B2, hc2.tr (Ch.of_bel B2), HGB.out, ?_, ?_, rfl, rfl, fun q e e2 => ?_, fun u hu => ?_, fun u hu => ?_⟩
    · rw [hV2]; exact own_bel (own_one hs2 _) (Bel.rf.al _)
    · rw [hV2]
      have := own_one (w := v2.alloc (.cells #[.slice (some ⟨a, 0, none⟩) n b] 22)) (B := w.heap.size) (by simp; omega) (.slice (some ⟨c, 0, none⟩) m d)
      rw [World.size_alloc] at this
      exact this
    · cases e
      have : v2.heap.size + 1 = v2.heap.size := by injection e2
      omega
    · obtain rfl : u = ⟨a, b, L⟩ := by simpa using hu
      exact KX.bel B2
    · obtain rfl : u = ⟨c, d, M⟩ := by simpa using hu
      exact KY.bel B2
  have HX2 := Lib.hid (KX.bel B2)
  have HY2 := Lib.hid (KY.bel B2)
  have HN : Hid (2 ≤ n ∧ n ≤ 32 ∧ 2 ≤ m ∧ m ≤ 32 ∧ 0 ≤ k ∧ k ≤ 32 ∧ (n : Int) - (m : Int) ≤ k ∧ (m : Int) - (n : Int) ≤ k) := ⟨n1, n2, m1, m2, k0, k1, k2, k3⟩
  clear hox hoy ho2 hc2 KX KY B2 hs2 sL sM lL lM
  subst hV2
  go_wp2_with fail
  go_at_call 29
  refine (n_any g 4 (by decide) (by decide) _ HBU.out.o).mono ?_
  rintro e v3 ⟨x, rfl, x0, x1, ho, hc⟩
  obtain ⟨i0, rfl⟩ := Int.eq_ofNat_of_zero_le x0
  have H0 : Hid (Bi g n m w a b c d L M (.slice (some ⟨v2.heap.size, 0, none⟩) 1 1) (.slice (some ⟨v2.heap.size + 1, 0, none⟩) 1 1) (.int .i64 (i0 : Int)) v3) :=
    ⟨1, i0, _, _, _, _, _, rfl, rfl, rfl, rfl, by omega, by omega, HBU.out.ch ho hc, HX2.out.ch hc HGB.out, HY2.out.ch hc HGB.out⟩
  clear HBU HX2 HY2 ho hc
  go_wp2
  go_loopw [8, 9, 10] (Bi g n m w a b c d L M) (fun _ _ s10 _ => (intOf s10).toNat)
  case atStart => exact H0.out
  case round =>
    obtain ⟨t, i, P, Q, V, p, q, hV, hp, hq, rfl, t1, ti, hbu, hkx, hky⟩ := hrel
    subst hV hp hq
    have HU := Lib.hid hbu
    have HX := Lib.hid hkx
    have HY := Lib.hid hky
    clear H0 hbu hkx hky
    rcases Nat.eq_zero_or_pos i with rfl | hi
    · obtain ⟨g1, c1, rfl, hc1, hb1⟩ := bun_of HU.out t1
      obtain ⟨g2, c2, rfl, hc2, hb2⟩ := bun_of HU.out.sx t1
      have HB := Lib.hid (And.intro hb1 hb2)
      clear hb1 hb2
      go_wp2
      go_ret3
      obtain ⟨n1, n2, m1, m2, k0, k1, k2, k3⟩ := HN.out
      exact ⟨g1, g2, c1, c2, t, n, m, _, _, _, _, _, _, k, rfl, t1, by omega, hc1, hc2, n1, n2, m1, m2, k0, k1, k2, k3, HB.out.1, HB.out.2, fun j => by
        rcases Nat.lt_or_ge j t with h | h
        · exact .inl ⟨(HB.out.1.2 j h).2.1.1, (HB.out.1.2 j h).2.2⟩
        · exact .inr h, fun j => by
        rcases Nat.lt_or_ge j t with h | h
        · exact .inl ⟨(HB.out.2.2 j h).2.1.1, (HB.out.2.2 j h).2.2⟩
        · exact .inr h, HU.out.c, ⟨_, rfl⟩, ⟨_, rfl⟩⟩
    · have ip : (i : Int) > 0 := by omega
      have iw : IntKind.i64.wrap ((i : Int) - 1) = ((i - 1 : Nat) : Int) := by rw [IntWalk.i64_in _ ⟨by omega, by omega⟩]; omega
      go_wp2_with fail
      go_at_call 25
      refine (near_any g _ b n L (by have := HN.out; omega) (by have := HN.out; omega) HX.out.2.2 _ HU.out.o HX.out.zi (fun ad e => by cases e; have : w.heap.size ≤ a := HX.out.base.1; have := HGB.out; show a ≠ g; omega)).mono ?_
      rintro e v3 ⟨zz, K, rfl, hown, lK, sK, ho, hc⟩
      obtain ⟨z1, zc1, rfl, hcap, hbs⟩ := row_form hown (by have := HN.out; omega)
      have KU1 : Cn.ok v3 w.heap.size n ⟨z1, zc1, K⟩ := ⟨own_low hown HU.out.c.sz, lK, sK⟩
      have HU1 := Lib.hid (HU.out.ch ho hc)
      have HX1 := Lib.hid (HX.out.ch hc HGB.out)
      have HY1 := Lib.hid (HY.out.ch hc HGB.out)
      have HZ1 := Lib.hid KU1
      clear ho hc hown KU1 sK lK hcap hbs HU HX HY
      rcases (show n = m ∨ n ≠ m by omega) with rfl | hnm
      · have M0 : True := trivial
        go_wp2_with (at_builtin; refine list_appd _ rfl _ _ rfl w.heap.size p t (P.map (Cn.v n)) rfl (own_bel HU1.out.po (Bel.rf.al _)) _ 1 1 _ rfl (vc_one _ rfl) (by omega) (by have := HU1.out.c.sz; simp; omega) ?_; intro p' w4 h2 h3 h4)
        have HU3 := Lib.hid ((HU1.out.bel (Bel.rf.al _)).ap (HZ1.out.bel (Bel.rf.al _)) h2 h3 h4)
        have HX3 := Lib.hid ((HU1.out.bel (Bel.rf.al _)).kp (HX1.out.bel (Bel.rf.al _)) h3)
        have HY3 := Lib.hid ((HU1.out.bel (Bel.rf.al _)).kp (HY1.out.bel (Bel.rf.al _)) h3)
        have HZ3 := Lib.hid ((HU1.out.bel (Bel.rf.al _)).kp (HZ1.out.bel (Bel.rf.al _)) h3)
        clear h2 h3 h4 HU1 HX1 HY1 HZ1
        go_at_call 29
        refine (n_any g 2 (by decide) (by decide) _ HU3.out.o).mono ?_
        rintro e v4 ⟨y, rfl, y0, y1, ho, hc⟩
        have HU4 := Lib.hid (HU3.out.ch ho hc)
        have HX4 := Lib.hid (HX3.out.ch hc HGB.out)
        have HY4 := Lib.hid (HY3.out.ch hc HGB.out)
        have HZ4 := Lib.hid (HZ3.out.ch hc HGB.out)
        clear ho hc HU3 HX3 HY3 HZ3
        rcases (show y = 0 ∨ y ≠ 0 by omega) with rfl | hy
        · go_wp2_with fail
          go_at_call 25
          refine (near_any g _ zc1 n K (by have := HN.out; omega) (by have := HN.out; omega) HZ4.out.2.2 _ HU4.out.o HZ4.out.zi (fun ad e => by cases e; have := HGB.out; show z1 ≠ g; have : w.heap.size ≤ z1 := HZ4.out.base.1; omega)).mono ?_
          rintro e v5 ⟨zz, N, rfl, hown, lN, sN, ho, hc⟩
          obtain ⟨z2, zc2, rfl, hcap, hbs⟩ := row_form hown (by have := HN.out; omega)
          have KU2 : Cn.ok v5 w.heap.size n ⟨z2, zc2, N⟩ := ⟨own_low hown (by have := HU4.out.c.sz; omega), lN, sN⟩
          have HU5 := Lib.hid (HU4.out.ch ho hc)
          have HX5 := Lib.hid (HX4.out.ch hc HGB.out)
          have HY5 := Lib.hid (HY4.out.ch hc HGB.out)
          have HZ5 := Lib.hid KU2
          clear ho hc hown KU2 sN hcap hbs
          go_wp2_with (at_builtin; refine list_appd _ rfl _ _ rfl w.heap.size q t (Q.map (Cn.v n)) rfl (own_bel HU5.out.qo (Bel.rf.al _)) _ 1 1 _ rfl (vc_one _ rfl) (by omega) (by have := HU5.out.c.sz; simp; omega) ?_; intro q' w6 h2 h3 h4)
          have HU6 := Lib.hid ((HU5.out.sx.bel (Bel.rf.al _)).ap (HZ5.out.bel (Bel.rf.al _)) h2 h3 h4).sx
          have HX6 := Lib.hid ((HU5.out.bel (Bel.rf.al _)).sx.kp (HX5.out.bel (Bel.rf.al _)) h3)
          have HY6 := Lib.hid ((HU5.out.bel (Bel.rf.al _)).sx.kp (HY5.out.bel (Bel.rf.al _)) h3)
          clear h2 h3 h4
          go_wp2
          go_roundw
          case rel => exact ⟨t + 1, i - 1, _, _, _, _, _, rfl, rfl, rfl, by go_num, by omega, by omega, HU6.out, HX6.out, HY6.out⟩
          case measure => simp [intOf]; omega
        · go_wp2_with fail
          go_at_call 26
          refine (list_any g n (by have := HN.out; omega) _ HU4.out.o).mono ?_
          rintro e v5 ⟨zz, N, rfl, hown, lN, sN, ho, hc⟩
          obtain ⟨z2, zc2, rfl, hcap, hbs⟩ := row_form hown (by have := HN.out; omega)
          have KU2 : Cn.ok v5 w.heap.size n ⟨z2, zc2, N⟩ := ⟨own_low hown (by have := HU4.out.c.sz; omega), lN, sN⟩
          have HU5 := Lib.hid (HU4.out.ch ho hc)
          have HX5 := Lib.hid (HX4.out.ch hc HGB.out)
          have HY5 := Lib.hid (HY4.out.ch hc HGB.out)
          have HZ5 := Lib.hid KU2
          clear ho hc hown KU2 sN hcap hbs
          go_wp2_with (at_builtin; refine list_appd _ rfl _ _ rfl w.heap.size q t (Q.map (Cn.v n)) rfl (own_bel HU5.out.qo (Bel.rf.al _)) _ 1 1 _ rfl (vc_one _ rfl) (by omega) (by have := HU5.out.c.sz; simp; omega) ?_; intro q' w6 h2 h3 h4)
          have HU6 := Lib.hid ((HU5.out.sx.bel (Bel.rf.al _)).ap (HZ5.out.bel (Bel.rf.al _)) h2 h3 h4).sx
          have HX6 := Lib.hid ((HU5.out.bel (Bel.rf.al _)).sx.kp (HX5.out.bel (Bel.rf.al _)) h3)
          have HY6 := Lib.hid ((HU5.out.bel (Bel.rf.al _)).sx.kp (HY5.out.bel (Bel.rf.al _)) h3)
          clear h2 h3 h4
          go_wp2
          go_roundw
          case rel => exact ⟨t + 1, i - 1, _, _, _, _, _, rfl, rfl, rfl, by go_num, by omega, by omega, HU6.out, HX6.out, HY6.out⟩
          case measure => simp [intOf]; omega
      · have hne2 : (n = m) = False := eq_false hnm
        go_wp2_with (at_builtin; refine list_appd _ rfl _ _ rfl w.heap.size p t (P.map (Cn.v n)) rfl (own_bel HU1.out.po (Bel.rf.al _)) _ 1 1 _ rfl (vc_one _ rfl) (by omega) (by have := HU1.out.c.sz; simp; omega) ?_; intro p' w4 h2 h3 h4)
        have HU3 := Lib.hid ((HU1.out.bel (Bel.rf.al _)).ap (HZ1.out.bel (Bel.rf.al _)) h2 h3 h4)
        have HX3 := Lib.hid ((HU1.out.bel (Bel.rf.al _)).kp (HX1.out.bel (Bel.rf.al _)) h3)
        have HY3 := Lib.hid ((HU1.out.bel (Bel.rf.al _)).kp (HY1.out.bel (Bel.rf.al _)) h3)
        have HZ3 := Lib.hid ((HU1.out.bel (Bel.rf.al _)).kp (HZ1.out.bel (Bel.rf.al _)) h3)
        clear h2 h3 h4 HU1 HX1 HY1 HZ1
        have HU4 := HU3
        have HX4 := HX3
        have HY4 := HY3
        have HZ4 := HZ3
        clear HU3 HX3 HY3 HZ3
        go_at_call 26
        refine (list_any g m (by have := HN.out; omega) _ HU4.out.o).mono ?_
        rintro e v5 ⟨zz, N, rfl, hown, lN, sN, ho, hc⟩
        obtain ⟨z2, zc2, rfl, hcap, hbs⟩ := row_form hown (by have := HN.out; omega)
        have KU2 : Cn.ok v5 w.heap.size m ⟨z2, zc2, N⟩ := ⟨own_low hown (by have := HU4.out.c.sz; omega), lN, sN⟩
        have HU5 := Lib.hid (HU4.out.ch ho hc)
        have HX5 := Lib.hid (HX4.out.ch hc HGB.out)
        have HY5 := Lib.hid (HY4.out.ch hc HGB.out)
        have HZ5 := Lib.hid KU2
        clear ho hc hown KU2 sN hcap hbs
        go_wp2_with (at_builtin; refine list_appd _ rfl _ _ rfl w.heap.size q t (Q.map (Cn.v m)) rfl (own_bel HU5.out.qo (Bel.rf.al _)) _ 1 1 _ rfl (vc_one _ rfl) (by omega) (by have := HU5.out.c.sz; simp; omega) ?_; intro q' w6 h2 h3 h4)
        have HU6 := Lib.hid ((HU5.out.sx.bel (Bel.rf.al _)).ap (HZ5.out.bel (Bel.rf.al _)) h2 h3 h4).sx
        have HX6 := Lib.hid ((HU5.out.bel (Bel.rf.al _)).sx.kp (HX5.out.bel (Bel.rf.al _)) h3)
        have HY6 := Lib.hid ((HU5.out.bel (Bel.rf.al _)).sx.kp (HY5.out.bel (Bel.rf.al _)) h3)
        clear h2 h3 h4
        go_wp2
        go_roundw
        case rel => exact ⟨t + 1, i - 1, _, _, _, _, _, rfl, rfl, rfl, by go_num, by omega, by omega, HU6.out, HX6.out, HY6.out⟩
        case measure => simp [intOf]; omega
end Go.Proofs.Ythmdponfigepjaa.Ch
