/- The contract of edit.Cost over the steps of an alignment. -/
import Derived.Test.YtkjffielnmdpcaaEdM
import Derived.Test.YtkjffielnmdpcaaEdit2
namespace Go.Proofs.Ytkjffielnmdpcaa.Ed
open Go.ChangeShapes Go.WideShapes Go.RowKit Wo Sr Wi
set_option linter.unusedVariables false
set_option maxHeartbeats 16000000 in
set_option maxRecDepth 100000 in
theorem cost_ok (A A' B : Option Addr) (c c' cb n m k : Nat) (X Y S : List Int) (g K : Int) (n1 : 2 ≤ n) (n2 : n ≤ 32) (m1 : 2 ≤ m) (m2 : m ≤ 32) (g0 : -1000 ≤ g) (g1 : g ≤ 1000) (hs : Sam X) (ht : Sam Y) (hS : Al X Y g S n m K) (w : World) (h1 : Zi w A n X) (h2 : Zi w A' m Y) (h3 : Zi w B k S) :
    Calls Try.prog 28 #[.slice A n c, .slice A' m c', .int .i64 g, .slice B k cb] w fun e w' => e = .returned (.tuple #[.int .i64 K, .int .i64 0]) ∧ Bel w w' := by
  have HC := Lib.hid (check_ok A A' c c' n m X Y g n1 n2 m1 m2 g0 g1 hs ht w h1 h2)
  have H1 := Lib.hid h1
  have H2 := Lib.hid h2
  have H3 := Lib.hid h3
  have HX := Lib.hid hs
  have HY := Lib.hid ht
  have HS := Lib.hid hS
  have hk := h3.1
  have hk2 : k ≤ 64 := by have := (al_cnt hS).2.2.2; omega
  have i1 : 2 ≤ (n : Int) := by omega
  have i2 : (n : Int) ≤ 32 := by omega
  have i3 : 2 ≤ (m : Int) := by omega
  have i4 : (m : Int) ≤ 32 := by omega
  have i5 : (k : Int) ≤ 64 := by omega
  have HBD : Hid (∀ t i j c, t ≤ k → Al X Y g (S.take t) i j c → 0 ≤ c ∧ c ≤ 128000) := fun t i j c ht' h => by
    have := al_bd hs ht g0 g1 h
    have := List.length_take_le t S
    omega
  clear h1 h2 h3 hs ht hS
  go_enter Try.func28, Try.ntmps28
  go_wp2_with fail
  go_at_call 50
  refine HC.out.mono ?_
  rintro e w1 ⟨rfl, hb1⟩
  have HB1 := Lib.hid hb1
  clear hb1
  go_wp2
  go_loopw [11, 12, 13, 25] (fun s11 s12 s13 s25 wr => ∃ (t i j : Nat) (V : World) (q : Int), V = wr ∧ t ≤ k ∧ s25 = .int .i64 (t : Int) ∧ s11 = .int .i64 q ∧ s12 = .int .i64 (i : Int) ∧ s13 = .int .i64 (j : Int) ∧ Al X Y g (S.take t) i j q ∧ Bel w wr) (fun _ _ _ s25 _ => k - (intOf s25).toNat)
  case atStart => exact ⟨0, 0, 0, _, 0, rfl, by omega, rfl, rfl, rfl, rfl, by rw [List.take_zero]; exact Al.nil, HB1.out⟩
  case round =>
    obtain ⟨t, i, j, wr, q, hwr, ht, rfl, rfl, rfl, rfl, hal, hb⟩ := hrel
    subst hwr
    have HB := Lib.hid hb
    have HAL := Lib.hid hal
    obtain ⟨b0, b1⟩ := HBD.out t i j q ht hal
    rcases Nat.lt_or_ge t k with hlt | hge
    · obtain ⟨ad3, rfl, _, hac3⟩ := (H3.out.bel hb).2 (by omega)
      have c3 := hac3 t hlt
      have ti : (t : Int) < (k : Int) := by omega
      have nx := al_next HS.out hal (by omega)
      obtain ⟨s, hs⟩ : ∃ s, S.getD t 0 = s := ⟨_, rfl⟩
      rw [hs] at c3 nx
      have HSS := Lib.hid hs
      rcases nx with ⟨rfl, hi, hj, hn⟩ | ⟨rfl, hi, hn⟩ | ⟨rfl, hj, hn⟩
      · obtain ⟨ad, rfl, _, hac⟩ := (H1.out.bel hb).2 (by omega)
        obtain ⟨ad', rfl, _, hac'⟩ := (H2.out.bel hb).2 (by omega)
        have c1 := hac i hi
        have c2 := hac' j hj
        have px := HX.out.at i
        have py := HY.out.at j
        obtain ⟨x, hx⟩ : ∃ x, X.getD i 0 = x := ⟨_, rfl⟩
        obtain ⟨y, hy⟩ : ∃ x, Y.getD j 0 = x := ⟨_, rfl⟩
        rw [hx] at c1 px hn
        rw [hy] at c2 py hn
        obtain ⟨d, hd⟩ : ∃ d, x - y = d := ⟨_, rfl⟩
        rw [hd] at hn
        have hr := ab_in (x := d) (B := 2000) (by omega) (by omega)
        have HAB : Hid (∀ W, _) := fun W => abs_ok d (by omega) (by omega) W
        obtain ⟨r, hrr⟩ : ∃ r, ab d = r := ⟨_, rfl⟩
        rw [hrr] at hr HAB hn
        have HN := Lib.hid hn
        have ii : (i : Int) < (n : Int) := by omega
        have jj : (j : Int) < (m : Int) := by omega
        have w1 : IntKind.i64.wrap d = d := IntWalk.i64_in _ (by omega)
        have w2 : IntKind.i64.wrap (q + r) = q + r := IntWalk.i64_in _ (by omega)
        have HLET := Lib.hid (And.intro hx (And.intro hy hrr))
        clear hb hal hac hac' hac3 hx hy hrr hn hs
        go_wp2_with fail
        go_region_held3 (fun w' => w'.cell? (ad.add i) = some (.int .i64 x) ∧ w'.cell? (ad'.add j) = some (.int .i64 y))
          ((refine ⟨?_, ?_⟩) <;> (repeat (first | exact c1 | exact c2 | (with_reducible refine kp_drwN ?_ _) | (with_reducible refine kp_drw ?_))))
          (first | (go_at_call 43; refine (HAB.out _).mono ?_; rintro e' w9 ⟨rfl, rfl⟩))
        all_goals
          go_wp2
          go_roundw
          case rel => exact ⟨t + 1, i + 1, j + 1, _, _, rfl, by omega, by go_num, rfl, by go_num, by go_num, HN.out, by first | exact HB.out | exact HB.out.drw | exact HB.out.drwN _⟩
          case measure => simp [intOf]; omega
      · obtain ⟨ad, rfl, _, hac⟩ := (H1.out.bel hb).2 (by omega)
        have c1 := hac i hi
        have px := HX.out.at i
        obtain ⟨x, hx⟩ : ∃ x, X.getD i 0 = x := ⟨_, rfl⟩
        rw [hx] at c1 px hn
        obtain ⟨d, hd⟩ : ∃ d, x - g = d := ⟨_, rfl⟩
        rw [hd] at hn
        have hr := ab_in (x := d) (B := 2000) (by omega) (by omega)
        have HAB : Hid (∀ W, _) := fun W => abs_ok d (by omega) (by omega) W
        obtain ⟨r, hrr⟩ : ∃ r, ab d = r := ⟨_, rfl⟩
        rw [hrr] at hr HAB hn
        have HN := Lib.hid hn
        have ii : (i : Int) < (n : Int) := by omega
        have w1 : wrap64 d = d := IntWalk.wrap64_in _ (by omega)
        have HLET := Lib.hid (And.intro hx hrr)
        clear hb hal hac hac3 hx hrr hn hs
        go_wp2_with fail
        go_at_call 43
        refine (HAB.out _).mono ?_
        rintro e' w9 ⟨rfl, rfl⟩
        go_wp2
        go_roundw
        case rel => exact ⟨t + 1, i + 1, j, _, _, rfl, by omega, by go_num, rfl, by go_num, rfl, HN.out, HB.out⟩
        case measure => simp [intOf]; omega
      · obtain ⟨ad, rfl, _, hac⟩ := (H2.out.bel hb).2 (by omega)
        have c1 := hac j hj
        have px := HY.out.at j
        obtain ⟨x, hx⟩ : ∃ x, Y.getD j 0 = x := ⟨_, rfl⟩
        rw [hx] at c1 px hn
        obtain ⟨d, hd⟩ : ∃ d, x - g = d := ⟨_, rfl⟩
        rw [hd] at hn
        have hr := ab_in (x := d) (B := 2000) (by omega) (by omega)
        have HAB : Hid (∀ W, _) := fun W => abs_ok d (by omega) (by omega) W
        obtain ⟨r, hrr⟩ : ∃ r, ab d = r := ⟨_, rfl⟩
        rw [hrr] at hr HAB hn
        have HN := Lib.hid hn
        have jj : (j : Int) < (m : Int) := by omega
        have w1 : wrap64 d = d := IntWalk.wrap64_in _ (by omega)
        have HLET := Lib.hid (And.intro hx hrr)
        clear hb hal hac hac3 hx hrr hn hs
        go_wp2_with fail
        go_at_call 43
        refine (HAB.out _).mono ?_
        rintro e' w9 ⟨rfl, rfl⟩
        go_wp2
        go_roundw
        case rel => exact ⟨t + 1, i, j + 1, _, _, rfl, by omega, by go_num, rfl, rfl, by go_num, HN.out, HB.out⟩
        case measure => simp [intOf]; omega
    · obtain rfl : k = t := by omega
      rw [List.take_of_length_le (by omega)] at hal
      have e := al_fun hal HS.out
      have a1 := al_cnt hal
      have a2 := al_cnt HS.out
      obtain rfl : n = i := by omega
      obtain rfl : m = j := by omega
      subst e
      clear hb hal a1 a2
      go_wp2
      go_ret2
      exact ⟨rfl, HB.out⟩
end Go.Proofs.Ytkjffielnmdpcaa.Ed
