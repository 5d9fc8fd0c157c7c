/- The contracts of limits.Warped and keep.Uneven. -/
import Derived.Test.YtkonknkoggfeaaaEnv0c
namespace Go.Proofs.Ytkonknkoggfeaaa.Ev
open Go.ChangeShapes Go.WideShapes Go.RowKit Wo Sr Wi
set_option linter.unusedVariables false
theorem own_take {w : World} {base n m c g : Nat} {M : List Int} (h : w.ownsRow base 3 1 (.slice (some ⟨g, 0, none⟩) n c) n (zs M)) (hM : M.length = n) (hm : m ≤ n) : w.ownsRow base 3 1 (.slice (some ⟨g, 0, none⟩) m c) m (zs (M.take m)) := by
  refine ⟨by rw [zs_len, List.length_take]; omega, ?_⟩
  rcases h.2 with ⟨h0, _⟩ | ⟨g', cap, cur, e1, hb, hg, h1, h2, h3, h4⟩
  · cases h0
  · injection e1 with e1 e2 e3
    injection e1 with e1
    cases e1
    subst e3
    refine .inr ⟨g, c, cur, rfl, hb, hg, by omega, h2, h3, ?_⟩
    have e : (cur.toList.take (n * 1)).take (m * 1) = cur.toList.take (m * 1) := by rw [List.take_take]; congr 1; omega
    rw [← e, h4]
    simp [zs, List.map_take]
theorem own_cap {w : World} {base h n c : Nat} {xs : List Value} {e : TypeId} (hown : w.ownsRow base e 1 (.slice (some ⟨h, 0, none⟩) n c) n xs) : n ≤ c := by
  rcases hown.2 with ⟨h0, _⟩ | ⟨g, cap, cur, e1, hb, hg, h1, _⟩
  · cases h0
  · injection e1 with e1 e2 e3
    subst e3
    exact h1
theorem warped_ok (A A' : Option Addr) (c c' n m : Nat) (L M : List Int) (b : Int) (n1 : 2 ≤ n) (n2 : n ≤ 32) (m1 : 2 ≤ m) (m2 : m ≤ 32) (b0 : 0 ≤ b) (b32 : b ≤ 32) (b1 : (n : Int) - (m : Int) ≤ b) (b2 : (m : Int) - (n : Int) ≤ b) (hs : Sam L) (ht : Sam M) (w : World) (h1 : Zi w A n L) (h2 : Zi w A' m M) :
    Calls Try.prog 28 #[.slice A n c, .slice A' m c', .int .i64 b] w fun e w' => e = .returned (.int .i64 0) ∧ Bel w w' := by
  have HW := Lib.hid (windows_ok A A' c c' n m L M b n1 n2 m1 m2 b1 b2 hs ht w h1 h2)
  clear h1 h2 hs ht
  go_enter Try.func28, Try.ntmps28
  go_wp2_with (go_at_call 47; refine HW.out.mono ?_; rintro e w2 ⟨rfl, hb2⟩)
  go_ret
  exact ⟨rfl, hb2⟩
/-- two windows in new rows and a band that they fit -/
def SomeU (g : Nat) (w : World) (e : Ending) (w' : World) : Prop := ∃ (a b c d n m : Nat) (L M : List Int) (k : Int), e = .returned (.tuple #[.slice (some ⟨a, 0, none⟩) n b, .slice (some ⟨c, 0, none⟩) m d, .int .i64 k]) ∧ 2 ≤ n ∧ n ≤ 32 ∧ 2 ≤ m ∧ m ≤ 32 ∧ a ≠ c ∧ n ≤ b ∧ m ≤ d ∧ 0 ≤ k ∧ k ≤ 32 ∧ (n : Int) - (m : Int) ≤ k ∧ (m : Int) - (n : Int) ≤ k ∧
  w'.ownsRow w.heap.size 3 1 (.slice (some ⟨a, 0, none⟩) n b) n (zs L) ∧ w'.ownsRow w.heap.size 3 1 (.slice (some ⟨c, 0, none⟩) m d) m (zs M) ∧ L.length = n ∧ M.length = m ∧ Sam L ∧ Sam M ∧ Ok w' g ∧ Ch g w w'
set_option maxHeartbeats 8000000 in
theorem uneven_any (g : Nat) (w : World) (h : Ok w g) : Calls Try.prog 6 #[.pointer (some ⟨g, 0, none⟩)] w (SomeU g w) := by
  have HGB := Lib.hid h.lt
  have HO0 := Lib.hid h
  clear h
  go_enter Try.func6, Try.ntmps6
  go_wp2_with fail
  go_at_call 19
  refine (pair_any g _ HO0.out).mono ?_
  rintro e v2 ⟨xa, xb, ya, yb, n, L, M, rfl, n1, n2, hxy, hox, hoy, lL, lM, sL, sM, ho2, hc2⟩
  have HO2 := Lib.hid ho2
  have HC2 := Lib.hid hc2
  have HOX := Lib.hid hox
  have HOY := Lib.hid hoy
  have hcx := own_cap hox
  have hcy := own_cap hoy
  have HLL := Lib.hid (And.intro lL (And.intro lM (And.intro sL sM)))
  clear ho2 hc2 hox hoy lL lM sL sM
  go_wp2_with fail
  go_at_call 20
  refine (n_any g 2 (by decide) (by decide) _ HO2.out).mono ?_
  rintro e v3 ⟨x, rfl, x0, x1, ho, hc⟩
  have HO3 := Lib.hid ho
  have HC3 := Lib.hid (HC2.out.tr hc)
  have HOX3 := Lib.hid (own_ch HOX.out hc HGB.out)
  have HOY3 := Lib.hid (own_ch HOY.out hc HGB.out)
  clear ho hc
  rcases (show x = 0 ∨ x ≠ 0 by omega) with rfl | hx
  · go_wp2_with fail
    go_at_call 16
    refine (range_any g 2 (n : Int) (by decide) (by omega) (by omega) _ HO3.out).mono ?_
    rintro e v4 ⟨m0, rfl, q0, q1, ho, hc⟩
    obtain ⟨m, rfl⟩ := Int.eq_ofNat_of_zero_le (show 0 ≤ m0 by omega)
    have HO4 := Lib.hid ho
    have HC4 := Lib.hid (HC3.out.tr hc)
    have HOX4 := Lib.hid (own_ch HOX3.out hc HGB.out)
    have HOY4 := Lib.hid (own_take (m := m) (own_ch HOY3.out hc HGB.out) HLL.out.2.1 (by omega))
    have lMM : (M.take m).length = m := by rw [List.length_take, HLL.out.2.1]; omega
    have sMM : Sam (M.take m) := HLL.out.2.2.2.take m
    have mc : (m : Int) ≤ (yb : Int) := by omega
    have mc2 : m ≤ yb := by omega
    have mm1 : 2 ≤ m := by omega
    have mm2 : m ≤ n := by omega
    clear ho hc
    obtain ⟨MM, hMM⟩ : ∃ MM, M.take m = MM := ⟨_, rfl⟩
    rw [hMM] at HOY4 lMM sMM
    have HMM := Lib.hid hMM
    clear hMM
    go_wp2_with fail
    go_at_call 20
    refine (n_any g 4 (by decide) (by decide) _ HO4.out).mono ?_
    rintro e v5 ⟨k, rfl, k0, k1, ho, hc⟩
    have HO5 := Lib.hid ho
    have HC5 := Lib.hid (HC4.out.tr hc)
    have HOX5 := Lib.hid (own_ch HOX4.out hc HGB.out)
    have HOY5 := Lib.hid (own_ch HOY4.out hc HGB.out)
    clear ho hc
    obtain ⟨b, hb⟩ : ∃ b, (n : Int) - (m : Int) + k = b := ⟨_, rfl⟩
    have wb : wrap64 b = b := IntWalk.wrap64_in _ (by omega)
    have HB := Lib.hid (And.intro hb (And.intro k0 k1))
    rcases Int.lt_trichotomy b 32 with hlt | rfl | hgt
    all_goals
      go_wp2_with fail
      go_at_call 20
      refine (n_any g 5 (by decide) (by decide) _ HO5.out).mono ?_
      rintro e v6 ⟨y, rfl, y0, y1, ho, hc⟩
      have HO6 := Lib.hid ho
      have HC6 := Lib.hid (HC5.out.tr hc)
      have HOX6 := Lib.hid (own_ch HOX5.out hc HGB.out)
      have HOY6 := Lib.hid (own_ch HOY5.out hc HGB.out)
      clear ho hc
      rcases (show y = 0 ∨ y ≠ 0 by omega) with rfl | hy
      all_goals
        go_wp2_with fail
        go_at_call 20
        refine (n_any g 2 (by decide) (by decide) _ HO6.out).mono ?_
        rintro e v7 ⟨z, rfl, z0, z1, ho, hc⟩
        have HO7 := Lib.hid ho
        have HC7 := Lib.hid (HC6.out.tr hc)
        have HOX7 := Lib.hid (own_ch HOX6.out hc HGB.out)
        have HOY7 := Lib.hid (own_ch HOY6.out hc HGB.out)
        clear ho hc
        rcases (show z = 0 ∨ z ≠ 0 by omega) with rfl | hz
        · go_wp2
          go_ret3
          exact ⟨ya, yb, xa, xb, m, n, MM, L, _, rfl, mm1, by omega, n1, n2, by omega, mc2, hcx, by have := HB.out; omega, by have := HB.out; omega, by have := HB.out; omega, by have := HB.out; omega, HOY7.out, HOX7.out, lMM, HLL.out.1, sMM, HLL.out.2.2.1, HO7.out, HC7.out⟩
        · go_wp2
          go_ret3
          exact ⟨xa, xb, ya, yb, n, m, L, MM, _, rfl, n1, n2, mm1, by omega, by omega, hcx, mc2, by have := HB.out; omega, by have := HB.out; omega, by have := HB.out; omega, by have := HB.out; omega, HOX7.out, HOY7.out, HLL.out.1, lMM, HLL.out.2.2.1, sMM, HO7.out, HC7.out⟩
  · obtain ⟨m, hm⟩ : ∃ m, m = n := ⟨n, rfl⟩
    have HO4 := HO3
    have HC4 := HC3
    have HOX4 := HOX3
    have HOY4 := HOY3
    have lMM : M.length = n := HLL.out.2.1
    have sMM : Sam M := HLL.out.2.2.2
    have mc2 := hcy
    have mm1 := n1
    have mm2 : n ≤ n := Nat.le_refl _
    clear hm m
    go_wp2_with fail
    go_at_call 20
    refine (n_any g 4 (by decide) (by decide) _ HO4.out).mono ?_
    rintro e v5 ⟨k, rfl, k0, k1, ho, hc⟩
    have HO5 := Lib.hid ho
    have HC5 := Lib.hid (HC4.out.tr hc)
    have HOX5 := Lib.hid (own_ch HOX4.out hc HGB.out)
    have HOY5 := Lib.hid (own_ch HOY4.out hc HGB.out)
    clear ho hc
    obtain ⟨b, hb⟩ : ∃ b, (n : Int) - (n : Int) + k = b := ⟨_, rfl⟩
    have wb : wrap64 b = b := IntWalk.wrap64_in _ (by omega)
    have HB := Lib.hid (And.intro hb (And.intro k0 k1))
    have hlt : b < 32 := by omega
    all_goals
      go_wp2_with fail
      go_at_call 20
      refine (n_any g 5 (by decide) (by decide) _ HO5.out).mono ?_
      rintro e v6 ⟨y, rfl, y0, y1, ho, hc⟩
      have HO6 := Lib.hid ho
      have HC6 := Lib.hid (HC5.out.tr hc)
      have HOX6 := Lib.hid (own_ch HOX5.out hc HGB.out)
      have HOY6 := Lib.hid (own_ch HOY5.out hc HGB.out)
      clear ho hc
      rcases (show y = 0 ∨ y ≠ 0 by omega) with rfl | hy
      all_goals
        go_wp2_with fail
        go_at_call 20
        refine (n_any g 2 (by decide) (by decide) _ HO6.out).mono ?_
        rintro e v7 ⟨z, rfl, z0, z1, ho, hc⟩
        have HO7 := Lib.hid ho
        have HC7 := Lib.hid (HC6.out.tr hc)
        have HOX7 := Lib.hid (own_ch HOX6.out hc HGB.out)
        have HOY7 := Lib.hid (own_ch HOY6.out hc HGB.out)
        clear ho hc
        rcases (show z = 0 ∨ z ≠ 0 by omega) with rfl | hz
        · go_wp2
          go_ret3
          exact ⟨ya, yb, xa, xb, n, n, M, L, _, rfl, mm1, by omega, n1, n2, by omega, mc2, hcx, by have := HB.out; omega, by have := HB.out; omega, by have := HB.out; omega, by have := HB.out; omega, HOY7.out, HOX7.out, lMM, HLL.out.1, sMM, HLL.out.2.2.1, HO7.out, HC7.out⟩
        · go_wp2
          go_ret3
          exact ⟨xa, xb, ya, yb, n, n, L, M, _, rfl, n1, n2, mm1, by omega, by omega, hcx, mc2, by have := HB.out; omega, by have := HB.out; omega, by have := HB.out; omega, by have := HB.out; omega, HOX7.out, HOY7.out, HLL.out.1, lMM, HLL.out.2.2.1, sMM, HO7.out, HC7.out⟩
end Go.Proofs.Ytkonknkoggfeaaa.Ev
