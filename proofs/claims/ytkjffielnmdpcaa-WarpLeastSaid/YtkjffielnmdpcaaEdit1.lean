/- The contracts of whole.Abs, the reference's Abs, limits.Windows with a band of 32, edit.check, and the law's some. -/
import Derived.Test.YtkjffielnmdpcaaNear
import Derived.Test.YtkjffielnmdpcaaEditMath
namespace Go.Proofs.Ytkjffielnmdpcaa.Ed
open Go.ChangeShapes Go.WideShapes Go.RowKit Wo Sr Wi
set_option linter.unusedVariables false
theorem abs_ok (n : Int) (h0 : -4611686018427387904 ≤ n) (h1 : n ≤ 4611686018427387904) (w : World) : Calls Try.prog 43 #[.int .i64 n] w fun e w' => e = .returned (.int .i64 (ab n)) ∧ w = w' := by
  unfold ab
  rcases Int.lt_trichotomy n 0 with h | rfl | h
  · rw [if_pos h]
    go_enter Try.func43, Try.ntmps43
    go_wp2
    go_ret
    exact ⟨rfl, rfl⟩
  · go_enter Try.func43, Try.ntmps43
    go_wp2
    go_ret
    exact ⟨rfl, rfl⟩
  · rw [if_neg (by omega)]
    go_enter Try.func43, Try.ntmps43
    go_wp2
    go_ret
    exact ⟨rfl, rfl⟩
theorem rabs_ok (n : Int) (h0 : -4611686018427387904 ≤ n) (h1 : n ≤ 4611686018427387904) (w : World) : Calls Try.prog 32 #[.int .i64 n] w fun e w' => e = .returned (.int .i64 (ab n)) ∧ w = w' := by
  unfold ab
  rcases Int.lt_trichotomy n 0 with h | rfl | h
  · rw [if_pos h]
    go_enter Try.func32, Try.ntmps32
    go_wp2
    go_ret
    exact ⟨rfl, rfl⟩
  · go_enter Try.func32, Try.ntmps32
    go_wp2
    go_ret
    exact ⟨rfl, rfl⟩
  · rw [if_neg (by omega)]
    go_enter Try.func32, Try.ntmps32
    go_wp2
    go_ret
    exact ⟨rfl, rfl⟩
set_option maxHeartbeats 4000000 in
theorem windows_ok (A A' : Option Addr) (c c' n m : Nat) (L M : List Int) (b : Int) (n1 : 2 ≤ n) (n2 : n ≤ 32) (m1 : 2 ≤ m) (m2 : m ≤ 32) (b1 : (n : Int) - (m : Int) ≤ b) (b2 : (m : Int) - (n : Int) ≤ b) (hs : Sam L) (ht : Sam M) (w : World) (h1 : Zi w A n L) (h2 : Zi w A' m M) :
    Calls Try.prog 58 #[.slice A n c, .slice A' m c', .int .i64 b] w fun e w' => e = .returned (.int .i64 0) ∧ Bel w w' := by
  have H1 := Lib.hid h1
  have H2 := Lib.hid h2
  have HS := Lib.hid hs
  have HT := Lib.hid ht
  have i1 : 2 ≤ (n : Int) := by omega
  have i2 : (n : Int) ≤ 32 := by omega
  have i3 : 2 ≤ (m : Int) := by omega
  have i4 : (m : Int) ≤ 32 := by omega
  clear h1 h2 hs ht
  go_enter Try.func58, Try.ntmps58
  go_wp2_with fail
  go_at_call 62
  refine (length_ok (n : Int) i1 i2 _).mono ?_
  rintro e v ⟨rfl, rfl⟩
  go_wp2_with fail
  go_at_call 62
  refine (length_ok (m : Int) i3 i4 _).mono ?_
  rintro e v ⟨rfl, rfl⟩
  go_wp2_with fail
  go_at_call 63
  refine (samples_ok A c n L (by omega) HS.out _ H1.out).mono ?_
  rintro e w1 ⟨rfl, hb1⟩
  have HB1 := Lib.hid hb1
  clear hb1
  go_wp2_with (go_at_call 63; refine (samples_ok A' c' m M (by omega) HT.out _ (H2.out.bel HB1.out)).mono ?_; rintro e w2 ⟨rfl, hb2⟩)
  go_ret
  exact ⟨rfl, HB1.out.tr hb2⟩
theorem check_ok (A A' : Option Addr) (c c' n m : Nat) (L M : List Int) (g : Int) (n1 : 2 ≤ n) (n2 : n ≤ 32) (m1 : 2 ≤ m) (m2 : m ≤ 32) (g0 : -1000 ≤ g) (g1 : g ≤ 1000) (hs : Sam L) (ht : Sam M) (w : World) (h1 : Zi w A n L) (h2 : Zi w A' m M) :
    Calls Try.prog 50 #[.slice A n c, .slice A' m c', .int .i64 g] w fun e w' => e = .returned (.int .i64 0) ∧ Bel w w' := by
  have HW := Lib.hid (windows_ok A A' c c' n m L M 32 n1 n2 m1 m2 (by omega) (by omega) hs ht w h1 h2)
  clear h1 h2 hs ht
  go_enter Try.func50, Try.ntmps50
  go_wp2_with fail
  go_at_call 61
  refine (sample_ok g g0 g1 _).mono ?_
  rintro e v ⟨rfl, rfl⟩
  go_wp2_with (go_at_call 58; refine HW.out.mono ?_; rintro e w2 ⟨rfl, hb2⟩)
  go_ret
  exact ⟨rfl, hb2⟩
theorem own_take {w : World} {base n m c g : Nat} {M : List Int} (h : w.ownsRow base 3 1 (.slice (some ⟨g, 0, none⟩) n c) n (zs M)) (hM : M.length = n) (hm : m ≤ n) : w.ownsRow base 3 1 (.slice (some ⟨g, 0, none⟩) m c) m (zs (M.take m)) := by
  refine ⟨by rw [zs_len, List.length_take]; omega, ?_⟩
  rcases h.2 with ⟨h0, _⟩ | ⟨g', cap, cur, e1, hb, hg, h1, h2, h3, h4⟩
  · cases h0
  · injection e1 with e1 e2 e3
    injection e1 with e1
    cases e1
    subst e3
    refine .inr ⟨g, c, cur, rfl, hb, hg, by omega, h2, h3, ?_⟩
    have e : (cur.toList.take (n * 1)).take (m * 1) = cur.toList.take (m * 1) := by rw [List.take_take]; congr 1; omega
    rw [← e, h4]
    simp [zs, List.map_take]
/-- two windows, the second not longer, and a gap -/
def SomeW (g : Nat) (w : World) (e : Ending) (w' : World) : Prop := ∃ (a b c d n m : Nat) (L M : List Int) (k : Int), e = .returned (.tuple #[.slice (some ⟨a, 0, none⟩) n b, .slice (some ⟨c, 0, none⟩) m d, .int .i64 k]) ∧ 2 ≤ n ∧ n ≤ 32 ∧ 2 ≤ m ∧ m ≤ n ∧ a < c ∧ n ≤ b ∧ m ≤ d ∧ -1000 ≤ k ∧ k ≤ 1000 ∧
  w'.ownsRow w.heap.size 3 1 (.slice (some ⟨a, 0, none⟩) n b) n (zs L) ∧ w'.ownsRow w.heap.size 3 1 (.slice (some ⟨c, 0, none⟩) m d) m (zs M) ∧ L.length = n ∧ M.length = m ∧ Sam L ∧ Sam M ∧ Ok w' g ∧ Ch g w w'
theorem own_cap {w : World} {base h n c : Nat} {xs : List Value} {e : TypeId} (hown : w.ownsRow base e 1 (.slice (some ⟨h, 0, none⟩) n c) n xs) : n ≤ c := by
  rcases hown.2 with ⟨h0, _⟩ | ⟨g, cap, cur, e1, hb, hg, h1, _⟩
  · cases h0
  · injection e1 with e1 e2 e3
    subst e3
    exact h1
set_option maxHeartbeats 4000000 in
theorem some_any (g : Nat) (w : World) (h : Ok w g) : Calls Try.prog 25 #[.pointer (some ⟨g, 0, none⟩)] w (SomeW g w) := by
  have HGB := Lib.hid h.lt
  have HO0 := Lib.hid h
  clear h
  go_enter Try.func25, Try.ntmps25
  go_wp2_with fail
  go_at_call 33
  refine (pair_any g _ HO0.out).mono ?_
  rintro e v2 ⟨xa, xb, ya, yb, n, L, M, rfl, n1, n2, hxy, hox, hoy, lL, lM, sL, sM, ho2, hc2⟩
  have HO2 := Lib.hid ho2
  have HC2 := Lib.hid hc2
  have HOX := Lib.hid hox
  have HOY := Lib.hid hoy
  have hcx := own_cap hox
  have hcy := own_cap hoy
  have HLL := Lib.hid (And.intro lL (And.intro lM (And.intro sL sM)))
  clear ho2 hc2 hox hoy lL lM sL sM
  go_wp2_with fail
  go_at_call 34
  refine (n_any g 2 (by decide) (by decide) _ HO2.out).mono ?_
  rintro e v3 ⟨x, rfl, x0, x1, ho, hc⟩
  have HO3 := Lib.hid ho
  have HC3 := Lib.hid (HC2.out.tr hc)
  have HOX3 := Lib.hid (own_ch HOX.out hc HGB.out)
  have HOY3 := Lib.hid (own_ch HOY.out hc HGB.out)
  clear ho hc
  rcases (show x = 0 ∨ x ≠ 0 by omega) with rfl | hx
  · go_wp2_with fail
    go_at_call 24
    refine (range_any g 2 (n : Int) (by decide) (by omega) (by omega) _ HO3.out).mono ?_
    rintro e v4 ⟨m0, rfl, q0, q1, ho, hc⟩
    obtain ⟨m, rfl⟩ := Int.eq_ofNat_of_zero_le (show 0 ≤ m0 by omega)
    have HO4 := Lib.hid ho
    have HC4 := Lib.hid (HC3.out.tr hc)
    have HOX4 := Lib.hid (own_ch HOX3.out hc HGB.out)
    have HOY4 := Lib.hid (own_take (m := m) (own_ch HOY3.out hc HGB.out) HLL.out.2.1 (by omega))
    have mc : (m : Int) ≤ (yb : Int) := by omega
    have mc2 : m ≤ yb := by omega
    clear ho hc
    go_wp2_with fail
    go_at_call 48
    refine (pick_any g v4.heap.size [0, 0, 1, -5, 30, 1000] 6 (by rfl) (by decide) (by decide) (by have := HGB.out; have := HC4.out.sz; omega) _ (HO4.out.bel (Bel.rf.al _)) (lst_new _ _ _ _ (by rfl) _ rfl)).mono ?_
    rintro e v5 ⟨k, rfl, hk, ho, hc⟩
    have hk2 : -1000 ≤ k ∧ k ≤ 1000 := by simp at hk; omega
    have HC5 := Lib.hid ((HC4.out.al (.cells #[.int .i64 0, .int .i64 0, .int .i64 1, .int .i64 (-5), .int .i64 30, .int .i64 1000] 3)).tr hc)
    have HOX5 := Lib.hid (own_ch (HOX4.out.alloc (.cells #[.int .i64 0, .int .i64 0, .int .i64 1, .int .i64 (-5), .int .i64 30, .int .i64 1000] 3)) hc HGB.out)
    have HOY5 := Lib.hid (own_ch (HOY4.out.alloc (.cells #[.int .i64 0, .int .i64 0, .int .i64 1, .int .i64 (-5), .int .i64 30, .int .i64 1000] 3)) hc HGB.out)
    have HO5 := Lib.hid ho
    clear ho hc hk
    go_wp2
    refine bodyPost_ret (v := .tuple #[.slice (some ⟨xa, 0, none⟩) n xb, .slice (some ⟨ya, 0, none⟩) m yb, .int .i64 k]) (by simp [results, Try.results25, go_sem]) rfl ?_
    exact ⟨xa, xb, ya, yb, n, m, L, M.take m, k, rfl, n1, n2, by omega, by omega, hxy, hcx, mc2, hk2.1, hk2.2, HOX5.out, HOY5.out, HLL.out.1, by rw [List.length_take, HLL.out.2.1]; omega, HLL.out.2.2.1, HLL.out.2.2.2.take m, HO5.out, HC5.out⟩
  · go_wp2_with fail
    go_at_call 48
    refine (pick_any g v3.heap.size [0, 0, 1, -5, 30, 1000] 6 (by rfl) (by decide) (by decide) (by have := HGB.out; have := HC3.out.sz; omega) _ (HO3.out.bel (Bel.rf.al _)) (lst_new _ _ _ _ (by rfl) _ rfl)).mono ?_
    rintro e v5 ⟨k, rfl, hk, ho, hc⟩
    have hk2 : -1000 ≤ k ∧ k ≤ 1000 := by simp at hk; omega
    have HC5 := Lib.hid ((HC3.out.al (.cells #[.int .i64 0, .int .i64 0, .int .i64 1, .int .i64 (-5), .int .i64 30, .int .i64 1000] 3)).tr hc)
    have HOX5 := Lib.hid (own_ch (HOX3.out.alloc (.cells #[.int .i64 0, .int .i64 0, .int .i64 1, .int .i64 (-5), .int .i64 30, .int .i64 1000] 3)) hc HGB.out)
    have HOY5 := Lib.hid (own_ch (HOY3.out.alloc (.cells #[.int .i64 0, .int .i64 0, .int .i64 1, .int .i64 (-5), .int .i64 30, .int .i64 1000] 3)) hc HGB.out)
    have HO5 := Lib.hid ho
    clear ho hc hk
    go_wp2
    refine bodyPost_ret (v := .tuple #[.slice (some ⟨xa, 0, none⟩) n xb, .slice (some ⟨ya, 0, none⟩) n yb, .int .i64 k]) (by simp [results, Try.results25, go_sem]) rfl ?_
    exact ⟨xa, xb, ya, yb, n, n, L, M, k, rfl, n1, n2, n1, by omega, hxy, hcx, hcy, hk2.1, hk2.2, HOX5.out, HOY5.out, HLL.out.1, HLL.out.2.1, HLL.out.2.2.1, HLL.out.2.2.2, HO5.out, HC5.out⟩
end Go.Proofs.Ytkjffielnmdpcaa.Ed
