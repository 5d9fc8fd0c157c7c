/- The contract of shapesearchlaw15.all: the least cost of the rest, by trying every step. -/
import Derived.Test.YtkjffielnmdpcaaEditAwake
namespace Go.Proofs.Ytkjffielnmdpcaa.Ed
open Go.ChangeShapes Go.WideShapes Go.RowKit Wo Sr Wi
set_option linter.unusedVariables false
/-- the least cost of aligning what is left -/
def rt (X Y : List Int) (g : Int) (i j : Nat) : Int := et X.reverse Y.reverse g (X.length - i) (Y.length - j)
theorem rv_at {X : List Int} {i : Nat} (h : i < X.length) : X.reverse.getD (X.length - 1 - i) 0 = X.getD i 0 := rev_at (by omega)
theorem rt_nn (X Y : List Int) (g : Int) (i j : Nat) : 0 ≤ rt X Y g i j := et_nn _ _ g _ _ _ rfl
theorem rt_hi {X Y : List Int} {g : Int} (hs : Sam X) (ht : Sam Y) (g0 : -1000 ≤ g) (g1 : g ≤ 1000) (hx : X.length ≤ 5) (hy : Y.length ≤ 5) (i j : Nat) : rt X Y g i j ≤ 20000 := by
  have h := et_hi (X := X.reverse) (Y := Y.reverse) (g := g) (fun x hx => hs x (by simpa using hx)) (fun x hx => ht x (by simpa using hx)) g0 g1 _ (X.length - i) (Y.length - j) rfl
  unfold rt
  omega
theorem rt_end (X Y : List Int) (g : Int) : rt X Y g X.length Y.length = 0 := by unfold rt; rw [Nat.sub_self, Nat.sub_self, et_00]
theorem rt_all (X Y : List Int) (g : Int) : rt X Y g 0 0 = et X Y g X.length Y.length := by unfold rt; rw [Nat.sub_zero, Nat.sub_zero, et_rev]
theorem rt_x (X Y : List Int) (g : Int) (i : Nat) (h : i < X.length) : rt X Y g i Y.length = ab (X.getD i 0 - g) + rt X Y g (i + 1) Y.length := by
  unfold rt
  rw [Nat.sub_self, show X.length - i = (X.length - 1 - i) + 1 by omega, et_s0, rv_at h, show X.length - (i + 1) = X.length - 1 - i by omega]
  omega
theorem rt_y (X Y : List Int) (g : Int) (j : Nat) (h : j < Y.length) : rt X Y g X.length j = ab (Y.getD j 0 - g) + rt X Y g X.length (j + 1) := by
  unfold rt
  rw [Nat.sub_self, show Y.length - j = (Y.length - 1 - j) + 1 by omega, et_0s, rv_at h, show Y.length - (j + 1) = Y.length - 1 - j by omega]
  omega
theorem rt_xy (X Y : List Int) (g : Int) (i j : Nat) (hi : i < X.length) (hj : j < Y.length) : rt X Y g i j = mn3 (ab (X.getD i 0 - Y.getD j 0) + rt X Y g (i + 1) (j + 1)) (ab (X.getD i 0 - g) + rt X Y g (i + 1) j) (ab (Y.getD j 0 - g) + rt X Y g i (j + 1)) := by
  unfold rt
  rw [show X.length - i = (X.length - 1 - i) + 1 by omega, show Y.length - j = (Y.length - 1 - j) + 1 by omega, et_ss, rv_at hi, rv_at hj, show X.length - (i + 1) = X.length - 1 - i by omega, show Y.length - (j + 1) = Y.length - 1 - j by omega]
  congr 1 <;> omega
theorem mn3_is {a b c r : Int} (h1 : r ≤ a) (h2 : r ≤ b) (h3 : r ≤ c) (h : r = a ∨ r = b ∨ r = c) : mn3 a b c = r := by
  unfold mn3 mn
  (repeat' split) <;> omega
set_option maxHeartbeats 16000000 in
set_option maxRecDepth 100000 in
theorem all_ok (A A' : Option Addr) (c c' n m : Nat) (X Y : List Int) (g : Int) (n2 : n ≤ 5) (m2 : m ≤ 5) (g0 : -1000 ≤ g) (g1 : g ≤ 1000) (hs : Sam X) (ht : Sam Y) (lX : X.length = n) (lY : Y.length = m) : ∀ (k i j : Nat), i ≤ n → j ≤ m → (n - i) + (m - j) = k → ∀ (w : World), Zi w A n X → Zi w A' m Y →
    Calls Try.prog 31 #[.slice A n c, .slice A' m c', .int .i64 g, .int .i64 (i : Int), .int .i64 (j : Int)] w fun e w' => e = .returned (.int .i64 (rt X Y g i j)) ∧ Bel w w' := by
  intro k
  induction k using Nat.strongRecOn with
  | _ k ih =>
    intro i j hi hj hk w h1 h2
    have IH : Hid (∀ i' j', i' ≤ n → j' ≤ m → (n - i') + (m - j') < k → ∀ W, Bel w W → Calls Try.prog 31 #[.slice A n c, .slice A' m c', .int .i64 g, .int .i64 (i' : Int), .int .i64 (j' : Int)] W fun e w' => e = .returned (.int .i64 (rt X Y g i' j')) ∧ Bel W w') :=
      fun i' j' h3 h4 h5 W hW => ih _ h5 i' j' h3 h4 rfl W (h1.bel hW) (h2.bel hW)
    have B0 := rt_nn X Y g
    have B1 : ∀ i j, rt X Y g i j ≤ 20000 := rt_hi hs ht g0 g1 (by omega) (by omega)
    have in2 : (n : Int) ≤ 5 := by omega
    have im2 : (m : Int) ≤ 5 := by omega
    clear ih
    rcases Nat.lt_or_ge i n with hin | hin
    · obtain ⟨ad, rfl, _, hac⟩ := h1.2 (by omega)
      have c1 := hac i hin
      have px := hs.at i
      rcases Nat.lt_or_ge j m with hjm | hjm
      · obtain ⟨ad', rfl, _, hac'⟩ := h2.2 (by omega)
        have c2 := hac' j hjm
        have py := ht.at j
        have e := rt_xy X Y g i j (by omega) (by omega)
        have CB : Hid (∀ W, Bel w W → W.cell? (ad.add i) = some (.int .i64 (X.getD i 0)) ∧ W.cell? (ad'.add j) = some (.int .i64 (Y.getD j 0))) := fun W hW => ⟨hW.kp c1, hW.kp c2⟩
        have F1 := Lib.hid (IH.out (i + 1) (j + 1) (by omega) (by omega) (by omega))
        have F2 := Lib.hid (IH.out (i + 1) j (by omega) (by omega) (by omega))
        have F3 := Lib.hid (IH.out i (j + 1) (by omega) (by omega) (by omega))
        have b1 := B0 (i + 1) (j + 1)
        have b2 := B0 (i + 1) j
        have b3 := B0 i (j + 1)
        have b4 := B1 (i + 1) (j + 1)
        have b5 := B1 (i + 1) j
        have b6 := B1 i (j + 1)
        obtain ⟨x, hx⟩ : ∃ x, X.getD i 0 = x := ⟨_, rfl⟩
        obtain ⟨y, hy⟩ : ∃ x, Y.getD j 0 = x := ⟨_, rfl⟩
        rw [hx] at c1 px e CB
        rw [hy] at c2 py e CB
        obtain ⟨u1, hu1⟩ : ∃ u, rt X Y g (i + 1) (j + 1) = u := ⟨_, rfl⟩
        obtain ⟨u2, hu2⟩ : ∃ u, rt X Y g (i + 1) j = u := ⟨_, rfl⟩
        obtain ⟨u3, hu3⟩ : ∃ u, rt X Y g i (j + 1) = u := ⟨_, rfl⟩
        rw [hu1] at F1 b1 b4 e
        rw [hu2] at F2 b2 b5 e
        rw [hu3] at F3 b3 b6 e
        rw [show ((i + 1 : Nat) : Int) = (i : Int) + 1 by omega] at F1 F2
        rw [show ((j + 1 : Nat) : Int) = (j : Int) + 1 by omega] at F1 F3
        obtain ⟨x0, x1⟩ := px
        obtain ⟨y0, y1⟩ := py
        obtain ⟨d1, hd1⟩ : ∃ d, x - y = d := ⟨_, rfl⟩
        obtain ⟨d2, hd2⟩ : ∃ d, x - g = d := ⟨_, rfl⟩
        obtain ⟨d3, hd3⟩ : ∃ d, y - g = d := ⟨_, rfl⟩
        rw [hd1, hd2, hd3] at e
        have br1 := ab_in (x := d1) (B := 2000) (by omega) (by omega)
        have br2 := ab_in (x := d2) (B := 2000) (by omega) (by omega)
        have br3 := ab_in (x := d3) (B := 2000) (by omega) (by omega)
        have HAB1 : Hid (∀ W, _) := fun W => rabs_ok d1 (by omega) (by omega) W
        have HAB2 : Hid (∀ W, _) := fun W => rabs_ok d2 (by omega) (by omega) W
        have HAB3 : Hid (∀ W, _) := fun W => rabs_ok d3 (by omega) (by omega) W
        obtain ⟨r1, hr1⟩ : ∃ r, ab d1 = r := ⟨_, rfl⟩
        obtain ⟨r2, hr2⟩ : ∃ r, ab d2 = r := ⟨_, rfl⟩
        obtain ⟨r3, hr3⟩ : ∃ r, ab d3 = r := ⟨_, rfl⟩
        rw [hr1] at br1 HAB1 e
        rw [hr2] at br2 HAB2 e
        rw [hr3] at br3 HAB3 e
        obtain ⟨q1, hq1⟩ : ∃ q, r1 + u1 = q := ⟨_, rfl⟩
        obtain ⟨q2, hq2⟩ : ∃ q, r2 + u2 = q := ⟨_, rfl⟩
        obtain ⟨q3, hq3⟩ : ∃ q, r3 + u3 = q := ⟨_, rfl⟩
        rw [hq1, hq2, hq3] at e
        have HE := Lib.hid e
        have w1 : IntKind.i64.wrap d1 = d1 := IntWalk.i64_in _ (by omega)
        have w2 : wrap64 d2 = d2 := IntWalk.wrap64_in _ (by omega)
        have w3 : wrap64 d3 = d3 := IntWalk.wrap64_in _ (by omega)
        have w4 : IntKind.i64.wrap q1 = q1 := IntWalk.i64_in _ (by omega)
        have w5 : wrap64 q2 = q2 := IntWalk.wrap64_in _ (by omega)
        have w6 : wrap64 q3 = q3 := IntWalk.wrap64_in _ (by omega)
        have w7 : IntKind.i64.wrap ((i : Int) + 1) = (i : Int) + 1 := IntWalk.i64_in _ (by omega)
        have w8 : IntKind.i64.wrap ((j : Int) + 1) = (j : Int) + 1 := IntWalk.i64_in _ (by omega)
        have ii : (i : Int) < (n : Int) := by omega
        have jj : (j : Int) < (m : Int) := by omega
        have nei : ((i : Int) == (n : Int)) = false := by simp; omega
        have nei2 : ¬ (i : Int) = (n : Int) := by omega
        have HLET := Lib.hid (And.intro hx (And.intro hy (And.intro hu1 (And.intro hu2 (And.intro hu3 (And.intro hr1 (And.intro hr2 hr3)))))))
        clear hx hy hu1 hu2 hu3 hr1 hr2 hr3 e br1 br2 br3 b1 b2 b3 b4 b5 b6 B0 B1 hac hac' h1 h2 IH
        rcases Int.lt_or_le q2 q1 with h21 | h21
        · rcases Int.lt_or_le q3 q2 with h3 | h3
          · go_enter Try.func31, Try.ntmps31
            go_wp2_with fail
            go_region_held3 (fun w' => w'.cell? (ad.add i) = some (.int .i64 x) ∧ w'.cell? (ad'.add j) = some (.int .i64 y))
              ((refine ⟨?_, ?_⟩) <;> (repeat (first | exact c1 | exact c2 | (with_reducible refine kp_drwN ?_ _) | (with_reducible refine kp_drw ?_) | (refine Bel.kp (by assumption) ?_))))
              (first
                | (go_at_call 32; refine (HAB1.out _).mono ?_; rintro e' w9 ⟨rfl, rfl⟩)
                | (go_at_call 31; (with_reducible refine (F1.out _ (by repeat (first | exact Bel.rf | (with_reducible refine Bel.drwN ?_ _) | (with_reducible refine Bel.drw ?_)))).mono ?_); rintro e' p1 ⟨rfl, hp1⟩))
            all_goals
              have HP1 : Hid (Bel w p1) := (by repeat (first | exact Bel.rf | (with_reducible refine Bel.drwN ?_ _) | (with_reducible refine Bel.drw ?_) | refine Bel.tr ?_ hp1))
              clear hp1
              have cc := CB.out p1 HP1.out
              obtain ⟨cc1, cc2⟩ := cc
              have ck1 : p1.drew.cell? (ad.add i) = some (.int .i64 x) := cc1
              go_wp2_with fail
              go_at_call 32
              refine (HAB2.out _).mono ?_
              rintro e' w9 ⟨rfl, rfl⟩
              go_wp2_with fail
              go_at_call 31
              refine (F2.out _ (by first | exact HP1.out | exact HP1.out.drw | exact HP1.out.drwN _)).mono ?_
              rintro e' p2 ⟨rfl, hb⟩
              have HP2 : Hid (Bel w p2) := (by first | exact HP1.out.tr hb | exact HP1.out.drw.tr hb | exact (HP1.out.drwN _).tr hb)
              have c22 := (CB.out p2 HP2.out).2
              clear hb
              go_wp2_with fail
              go_at_call 32
              refine (HAB3.out _).mono ?_
              rintro e' w9 ⟨rfl, rfl⟩
              go_wp2_with fail
              go_at_call 31
              refine (F3.out _ HP2.out).mono ?_
              rintro e' p3 ⟨rfl, hb⟩
              have HP3 := Lib.hid (HP2.out.tr hb)
              clear hb
              go_wp2
              all_goals (go_ret; exact ⟨ret_int (by rw [HE.out]; exact (mn3_is (by omega) (by omega) (by omega) (by omega)).symm), HP3.out⟩)
          · go_enter Try.func31, Try.ntmps31
            go_wp2_with fail
            go_region_held3 (fun w' => w'.cell? (ad.add i) = some (.int .i64 x) ∧ w'.cell? (ad'.add j) = some (.int .i64 y))
              ((refine ⟨?_, ?_⟩) <;> (repeat (first | exact c1 | exact c2 | (with_reducible refine kp_drwN ?_ _) | (with_reducible refine kp_drw ?_) | (refine Bel.kp (by assumption) ?_))))
              (first
                | (go_at_call 32; refine (HAB1.out _).mono ?_; rintro e' w9 ⟨rfl, rfl⟩)
                | (go_at_call 31; (with_reducible refine (F1.out _ (by repeat (first | exact Bel.rf | (with_reducible refine Bel.drwN ?_ _) | (with_reducible refine Bel.drw ?_)))).mono ?_); rintro e' p1 ⟨rfl, hp1⟩))
            all_goals
              have HP1 : Hid (Bel w p1) := (by repeat (first | exact Bel.rf | (with_reducible refine Bel.drwN ?_ _) | (with_reducible refine Bel.drw ?_) | refine Bel.tr ?_ hp1))
              clear hp1
              have cc := CB.out p1 HP1.out
              obtain ⟨cc1, cc2⟩ := cc
              have ck1 : p1.drew.cell? (ad.add i) = some (.int .i64 x) := cc1
              go_wp2_with fail
              go_at_call 32
              refine (HAB2.out _).mono ?_
              rintro e' w9 ⟨rfl, rfl⟩
              go_wp2_with fail
              go_at_call 31
              refine (F2.out _ (by first | exact HP1.out | exact HP1.out.drw | exact HP1.out.drwN _)).mono ?_
              rintro e' p2 ⟨rfl, hb⟩
              have HP2 : Hid (Bel w p2) := (by first | exact HP1.out.tr hb | exact HP1.out.drw.tr hb | exact (HP1.out.drwN _).tr hb)
              have c22 := (CB.out p2 HP2.out).2
              clear hb
              go_wp2_with fail
              go_at_call 32
              refine (HAB3.out _).mono ?_
              rintro e' w9 ⟨rfl, rfl⟩
              go_wp2_with fail
              go_at_call 31
              refine (F3.out _ HP2.out).mono ?_
              rintro e' p3 ⟨rfl, hb⟩
              have HP3 := Lib.hid (HP2.out.tr hb)
              clear hb
              go_wp2
              all_goals (go_ret; exact ⟨ret_int (by rw [HE.out]; exact (mn3_is (by omega) (by omega) (by omega) (by omega)).symm), HP3.out⟩)
        · rcases Int.lt_or_le q3 q1 with h3 | h3
          · go_enter Try.func31, Try.ntmps31
            go_wp2_with fail
            go_region_held3 (fun w' => w'.cell? (ad.add i) = some (.int .i64 x) ∧ w'.cell? (ad'.add j) = some (.int .i64 y))
              ((refine ⟨?_, ?_⟩) <;> (repeat (first | exact c1 | exact c2 | (with_reducible refine kp_drwN ?_ _) | (with_reducible refine kp_drw ?_) | (refine Bel.kp (by assumption) ?_))))
              (first
                | (go_at_call 32; refine (HAB1.out _).mono ?_; rintro e' w9 ⟨rfl, rfl⟩)
                | (go_at_call 31; (with_reducible refine (F1.out _ (by repeat (first | exact Bel.rf | (with_reducible refine Bel.drwN ?_ _) | (with_reducible refine Bel.drw ?_)))).mono ?_); rintro e' p1 ⟨rfl, hp1⟩))
            all_goals
              have HP1 : Hid (Bel w p1) := (by repeat (first | exact Bel.rf | (with_reducible refine Bel.drwN ?_ _) | (with_reducible refine Bel.drw ?_) | refine Bel.tr ?_ hp1))
              clear hp1
              have cc := CB.out p1 HP1.out
              obtain ⟨cc1, cc2⟩ := cc
              have ck1 : p1.drew.cell? (ad.add i) = some (.int .i64 x) := cc1
              go_wp2_with fail
              go_at_call 32
              refine (HAB2.out _).mono ?_
              rintro e' w9 ⟨rfl, rfl⟩
              go_wp2_with fail
              go_at_call 31
              refine (F2.out _ (by first | exact HP1.out | exact HP1.out.drw | exact HP1.out.drwN _)).mono ?_
              rintro e' p2 ⟨rfl, hb⟩
              have HP2 : Hid (Bel w p2) := (by first | exact HP1.out.tr hb | exact HP1.out.drw.tr hb | exact (HP1.out.drwN _).tr hb)
              have c22 := (CB.out p2 HP2.out).2
              clear hb
              go_wp2_with fail
              go_at_call 32
              refine (HAB3.out _).mono ?_
              rintro e' w9 ⟨rfl, rfl⟩
              go_wp2_with fail
              go_at_call 31
              refine (F3.out _ HP2.out).mono ?_
              rintro e' p3 ⟨rfl, hb⟩
              have HP3 := Lib.hid (HP2.out.tr hb)
              clear hb
              go_wp2
              all_goals (go_ret; exact ⟨ret_int (by rw [HE.out]; exact (mn3_is (by omega) (by omega) (by omega) (by omega)).symm), HP3.out⟩)
          · go_enter Try.func31, Try.ntmps31
            go_wp2_with fail
            go_region_held3 (fun w' => w'.cell? (ad.add i) = some (.int .i64 x) ∧ w'.cell? (ad'.add j) = some (.int .i64 y))
              ((refine ⟨?_, ?_⟩) <;> (repeat (first | exact c1 | exact c2 | (with_reducible refine kp_drwN ?_ _) | (with_reducible refine kp_drw ?_) | (refine Bel.kp (by assumption) ?_))))
              (first
                | (go_at_call 32; refine (HAB1.out _).mono ?_; rintro e' w9 ⟨rfl, rfl⟩)
                | (go_at_call 31; (with_reducible refine (F1.out _ (by repeat (first | exact Bel.rf | (with_reducible refine Bel.drwN ?_ _) | (with_reducible refine Bel.drw ?_)))).mono ?_); rintro e' p1 ⟨rfl, hp1⟩))
            all_goals
              have HP1 : Hid (Bel w p1) := (by repeat (first | exact Bel.rf | (with_reducible refine Bel.drwN ?_ _) | (with_reducible refine Bel.drw ?_) | refine Bel.tr ?_ hp1))
              clear hp1
              have cc := CB.out p1 HP1.out
              obtain ⟨cc1, cc2⟩ := cc
              have ck1 : p1.drew.cell? (ad.add i) = some (.int .i64 x) := cc1
              go_wp2_with fail
              go_at_call 32
              refine (HAB2.out _).mono ?_
              rintro e' w9 ⟨rfl, rfl⟩
              go_wp2_with fail
              go_at_call 31
              refine (F2.out _ (by first | exact HP1.out | exact HP1.out.drw | exact HP1.out.drwN _)).mono ?_
              rintro e' p2 ⟨rfl, hb⟩
              have HP2 : Hid (Bel w p2) := (by first | exact HP1.out.tr hb | exact HP1.out.drw.tr hb | exact (HP1.out.drwN _).tr hb)
              have c22 := (CB.out p2 HP2.out).2
              clear hb
              go_wp2_with fail
              go_at_call 32
              refine (HAB3.out _).mono ?_
              rintro e' w9 ⟨rfl, rfl⟩
              go_wp2_with fail
              go_at_call 31
              refine (F3.out _ HP2.out).mono ?_
              rintro e' p3 ⟨rfl, hb⟩
              have HP3 := Lib.hid (HP2.out.tr hb)
              clear hb
              go_wp2
              all_goals (go_ret; exact ⟨ret_int (by rw [HE.out]; exact (mn3_is (by omega) (by omega) (by omega) (by omega)).symm), HP3.out⟩)
      · obtain rfl : j = m := by omega
        have e := rt_x X Y g i (by omega)
        rw [lY] at e
        have F2 := Lib.hid (IH.out (i + 1) j (by omega) (by omega) (by omega))
        have b2 := B0 (i + 1) j
        have b5 := B1 (i + 1) j
        obtain ⟨x, hx⟩ : ∃ x, X.getD i 0 = x := ⟨_, rfl⟩
        rw [hx] at c1 px e
        obtain ⟨u2, hu2⟩ : ∃ u, rt X Y g (i + 1) j = u := ⟨_, rfl⟩
        rw [hu2] at F2 b2 b5 e
        rw [show ((i + 1 : Nat) : Int) = (i : Int) + 1 by omega] at F2
        obtain ⟨x0, x1⟩ := px
        obtain ⟨d2, hd2⟩ : ∃ d, x - g = d := ⟨_, rfl⟩
        rw [hd2] at e
        have br2 := ab_in (x := d2) (B := 2000) (by omega) (by omega)
        have HAB2 : Hid (∀ W, _) := fun W => rabs_ok d2 (by omega) (by omega) W
        obtain ⟨r2, hr2⟩ : ∃ r, ab d2 = r := ⟨_, rfl⟩
        rw [hr2] at br2 HAB2 e
        obtain ⟨q2, hq2⟩ : ∃ q, r2 + u2 = q := ⟨_, rfl⟩
        rw [hq2] at e
        have HE := Lib.hid e
        have w2 : wrap64 d2 = d2 := IntWalk.wrap64_in _ (by omega)
        have w5 : wrap64 q2 = q2 := IntWalk.wrap64_in _ (by omega)
        have lt1 : q2 < 4611686018427387904 := by omega
        have ii : (i : Int) < (n : Int) := by omega
        have nei : ((i : Int) == (n : Int)) = false := by simp; omega
        have nei2 : ¬ (i : Int) = (n : Int) := by omega
        have HLET := Lib.hid (And.intro hx (And.intro hu2 hr2))
        clear hx hu2 hr2 e br2 b2 b5 B0 B1 hac h1 h2 IH
        go_enter Try.func31, Try.ntmps31
        go_wp2_with fail
        go_at_call 32
        refine (HAB2.out _).mono ?_
        rintro e' w9 ⟨rfl, rfl⟩
        go_wp2_with fail
        go_at_call 31
        refine (F2.out _ Bel.rf).mono ?_
        rintro e' w3' ⟨rfl, hb⟩
        have HB := Lib.hid hb
        clear hb
        go_wp2
        all_goals (first | (go_ret; exact ⟨ret_int HE.out.symm, HB.out⟩) | (exfalso; omega))
    · obtain rfl : i = n := by omega
      rcases Nat.lt_or_ge j m with hjm | hjm
      · obtain ⟨ad', rfl, _, hac'⟩ := h2.2 (by omega)
        have c1 := hac' j hjm
        have px := ht.at j
        have e := rt_y X Y g j (by omega)
        rw [lX] at e
        have F2 := Lib.hid (IH.out i (j + 1) (by omega) (by omega) (by omega))
        have b2 := B0 i (j + 1)
        have b5 := B1 i (j + 1)
        obtain ⟨x, hx⟩ : ∃ x, Y.getD j 0 = x := ⟨_, rfl⟩
        rw [hx] at c1 px e
        obtain ⟨u2, hu2⟩ : ∃ u, rt X Y g i (j + 1) = u := ⟨_, rfl⟩
        rw [hu2] at F2 b2 b5 e
        rw [show ((j + 1 : Nat) : Int) = (j : Int) + 1 by omega] at F2
        obtain ⟨x0, x1⟩ := px
        obtain ⟨d2, hd2⟩ : ∃ d, x - g = d := ⟨_, rfl⟩
        rw [hd2] at e
        have br2 := ab_in (x := d2) (B := 2000) (by omega) (by omega)
        have HAB2 : Hid (∀ W, _) := fun W => rabs_ok d2 (by omega) (by omega) W
        obtain ⟨r2, hr2⟩ : ∃ r, ab d2 = r := ⟨_, rfl⟩
        rw [hr2] at br2 HAB2 e
        obtain ⟨q2, hq2⟩ : ∃ q, r2 + u2 = q := ⟨_, rfl⟩
        rw [hq2] at e
        have HE := Lib.hid e
        have w2 : wrap64 d2 = d2 := IntWalk.wrap64_in _ (by omega)
        have w5 : wrap64 q2 = q2 := IntWalk.wrap64_in _ (by omega)
        have lt1 : q2 < 4611686018427387904 := by omega
        have jj : (j : Int) < (m : Int) := by omega
        have jj2 : ¬ ((j : Int) = (m : Int)) := by omega
        have jj3 : ((j : Int) == (m : Int)) = false := by simp; omega
        have HLET := Lib.hid (And.intro hx (And.intro hu2 hr2))
        clear hx hu2 hr2 e br2 b2 b5 B0 B1 hac' h1 h2 IH
        go_enter Try.func31, Try.ntmps31
        go_wp2_with fail
        go_at_call 32
        refine (HAB2.out _).mono ?_
        rintro e' w9 ⟨rfl, rfl⟩
        go_wp2_with fail
        go_at_call 31
        refine (F2.out _ Bel.rf).mono ?_
        rintro e' w3' ⟨rfl, hb⟩
        have HB := Lib.hid hb
        clear hb
        go_wp2
        all_goals (first | (go_ret; exact ⟨ret_int HE.out.symm, HB.out⟩) | (exfalso; omega))
      · obtain rfl : j = m := by omega
        have e := rt_end X Y g
        rw [lX, lY] at e
        have HE := Lib.hid e
        clear e B0 B1 h1 h2 IH
        go_enter Try.func31, Try.ntmps31
        go_wp2
        go_ret
        exact ⟨ret_int HE.out.symm, Bel.rf⟩
end Go.Proofs.Ytkjffielnmdpcaa.Ed
