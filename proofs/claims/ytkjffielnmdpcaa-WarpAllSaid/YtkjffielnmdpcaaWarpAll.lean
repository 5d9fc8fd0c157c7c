/- The contract of shapesearchlaw14.all: the least cost of the paths from a pair on, by trying every step. -/
import Derived.Test.YtkjffielnmdpcaaWarp10
namespace Go.Proofs.Ytkjffielnmdpcaa.Wa
open Go.ChangeShapes Go.WideShapes Go.RowKit Wo Sr Wi Ed
set_option linter.unusedVariables false
set_option maxHeartbeats 4000000 in
set_option maxRecDepth 100000 in
theorem all_ok (A A' : Option Addr) (c c' n m : Nat) (X Y : List Int) (b : Int) (b0 : 0 ≤ b) (b32 : b ≤ 32) (n2 : n ≤ 5) (m2 : m ≤ 5) (hs : Sam X) (ht : Sam Y) : ∀ (k i j : Nat), i ≤ n → j ≤ m → (n - i) + (m - j) = k → ∀ (w : World), Zi w A n X → Zi w A' m Y →
    Calls Try.prog 21 #[.slice A n c, .slice A' m c', .int .i64 b, .int .i64 (i : Int), .int .i64 (j : Int)] w fun e w' => e = .returned (.int .i64 (wa X Y b n m i j)) ∧ Bel w w' := by
  intro k
  induction k using Nat.strongRecOn with
  | _ k ih =>
    intro i j hi hj hk w h1 h2
    have IH : Hid (∀ i' j', i' ≤ n → j' ≤ m → (n - i') + (m - j') < k → ∀ W, Bel w W → Calls Try.prog 21 #[.slice A n c, .slice A' m c', .int .i64 b, .int .i64 (i' : Int), .int .i64 (j' : Int)] W fun e w' => e = .returned (.int .i64 (wa X Y b n m i' j')) ∧ Bel W w') :=
      fun i' j' h3 h4 h5 W hW => ih _ h5 i' j' h3 h4 rfl W (h1.bel hW) (h2.bel hW)
    have BD : ∀ i j, 0 ≤ wa X Y b n m i j ∧ wa X Y b n m i j ≤ 4611686018427387904 := fun i j => wa_bd hs ht _ i j rfl
    have in2 : (n : Int) ≤ 5 := by omega
    have im2 : (m : Int) ≤ 5 := by omega
    clear ih
    rcases Nat.lt_or_ge i n with hin | hin
    · have g1 : ¬ (n : Int) ≤ (i : Int) := by omega
      rcases Nat.lt_or_ge j m with hjm | hjm
      · have g2 : ¬ (m : Int) ≤ (j : Int) := by omega
        rcases Int.lt_or_le b ((i : Int) - (j : Int)) with g3 | g3
        · have e := wa_out (X := X) (Y := Y) (b := b) (n := n) (m := m) (i := i) (j := j) (.inr (.inr (fun h => by have := h.1; omega)))
          have HE := Lib.hid e
          obtain ⟨d, hd⟩ : ∃ d, (i : Int) - (j : Int) = d := ⟨_, rfl⟩
          rw [hd] at g3
          have wd : wrap64 d = d := IntWalk.wrap64_in _ (by omega)
          clear e BD h1 h2 IH
          go_enter Try.func21, Try.ntmps21
          go_wp2
          go_ret
          exact ⟨ret_int HE.out.symm, Bel.rf⟩
        · rcases Int.lt_or_le b ((j : Int) - (i : Int)) with g4 | g4
          · have e := wa_out (X := X) (Y := Y) (b := b) (n := n) (m := m) (i := i) (j := j) (.inr (.inr (fun h => by have := h.2; omega)))
            have HE := Lib.hid e
            obtain ⟨d, hd⟩ : ∃ d, (i : Int) - (j : Int) = d := ⟨_, rfl⟩
            rw [hd] at g3
            obtain ⟨d', hd'⟩ : ∃ d, (j : Int) - (i : Int) = d := ⟨_, rfl⟩
            rw [hd'] at g4
            have wd : wrap64 d = d := IntWalk.wrap64_in _ (by omega)
            have wd' : wrap64 d' = d' := IntWalk.wrap64_in _ (by omega)
            have g3n : ¬ b < d := by omega
            clear e BD h1 h2 IH
            go_enter Try.func21, Try.ntmps21
            go_wp2
            go_ret
            exact ⟨ret_int HE.out.symm, Bel.rf⟩
          · have hB : Bnd b i j := ⟨g3, g4⟩
            obtain ⟨ad, rfl, _, hac⟩ := h1.2 (by omega)
            obtain ⟨ad', rfl, _, hac'⟩ := h2.2 (by omega)
            have c1 := hac i hin
            have c2 := hac' j hjm
            have px := hs.at i
            have py := ht.at j
            have ec : cst X Y i j = (X.getD i 0 - Y.getD j 0) * (X.getD i 0 - Y.getD j 0) := rfl
            obtain ⟨x, hx⟩ : ∃ x, X.getD i 0 = x := ⟨_, rfl⟩
            obtain ⟨y, hy⟩ : ∃ x, Y.getD j 0 = x := ⟨_, rfl⟩
            rw [hx] at c1 px ec
            rw [hy] at c2 py ec
            obtain ⟨d1, hd1⟩ : ∃ d, x - y = d := ⟨_, rfl⟩
            rw [hd1] at ec
            have hsq := sq_bd (B := 2000) (x := d1) (by omega) (by omega)
            obtain ⟨r, hr⟩ : ∃ r, d1 * d1 = r := ⟨_, rfl⟩
            rw [hr] at hsq ec
            have g3n : ¬ b < (i : Int) - (j : Int) := by omega
            have g4n : ¬ b < (j : Int) - (i : Int) := by omega
            obtain ⟨d, hd⟩ : ∃ d, (i : Int) - (j : Int) = d := ⟨_, rfl⟩
            rw [hd] at g3 g3n
            obtain ⟨d', hd'⟩ : ∃ d, (j : Int) - (i : Int) = d := ⟨_, rfl⟩
            rw [hd'] at g4 g4n
            have wd : wrap64 d = d := IntWalk.wrap64_in _ (by omega)
            have wd' : wrap64 d' = d' := IntWalk.wrap64_in _ (by omega)
            have ii : (i : Int) < (n : Int) := by omega
            have jj : (j : Int) < (m : Int) := by omega
            have w1 : IntKind.i64.wrap d1 = d1 := IntWalk.i64_in _ (by omega)
            have w2 : IntKind.i64.wrap r = r := IntWalk.i64_in _ (by omega)
            obtain ⟨nl, hnl⟩ : ∃ k, n - 1 = k := ⟨_, rfl⟩
            obtain ⟨ml, hml⟩ : ∃ k, m - 1 = k := ⟨_, rfl⟩
            have hnli : (n : Int) - 1 = (nl : Int) := by omega
            have hmli : (m : Int) - 1 = (ml : Int) := by omega
            have HNL := Lib.hid (And.intro hnl hml)
            have HXY := Lib.hid (And.intro hx hy)
            clear hac hac' hx hy px py hnl hml
            rcases Classical.em (i + 1 = n ∧ j + 1 = m) with he | he
            · have e := wa_last (X := X) (Y := Y) hB he.1 he.2
              rw [ec] at e
              have HE := Lib.hid e
              obtain rfl : i = nl := by have := HNL.out; omega
              obtain rfl : j = ml := by have := HNL.out; omega
              have ei : ((i : Int) == (i : Int)) = true := by simp
              have ej : ((j : Int) == (j : Int)) = true := by simp
              clear e he ec BD h1 h2 IH hB HNL
              go_enter Try.func21, Try.ntmps21
              go_wp2_with fail
              go_quiet (fail)
              go_wp2
              go_ret
              exact ⟨ret_int HE.out.symm, Bel.rf.drwN _⟩
            · have e := wa_in (X := X) (Y := Y) hB hin hjm he
              rw [ec] at e
              have F1 := Lib.hid (IH.out (i + 1) (j + 1) (by omega) (by omega) (by omega))
              have F2 := Lib.hid (IH.out (i + 1) j (by omega) (by omega) (by omega))
              have F3 := Lib.hid (IH.out i (j + 1) (by omega) (by omega) (by omega))
              have b1 := BD (i + 1) (j + 1)
              have b2 := BD (i + 1) j
              have b3 := BD i (j + 1)
              obtain ⟨u1, hu1⟩ : ∃ u, wa X Y b n m (i + 1) (j + 1) = u := ⟨_, rfl⟩
              obtain ⟨u2, hu2⟩ : ∃ u, wa X Y b n m (i + 1) j = u := ⟨_, rfl⟩
              obtain ⟨u3, hu3⟩ : ∃ u, wa X Y b n m i (j + 1) = u := ⟨_, rfl⟩
              rw [hu1] at F1 b1 e
              rw [hu2] at F2 b2 e
              rw [hu3] at F3 b3 e
              rw [show ((i + 1 : Nat) : Int) = (i : Int) + 1 by omega] at F1 F2
              rw [show ((j + 1 : Nat) : Int) = (j : Int) + 1 by omega] at F1 F3
              have hmn := mn3_if u1 u2 u3
              have hcase : (u2 < u1 ∧ u3 < u2 ∧ mn3 u1 u2 u3 = u3) ∨ (u2 < u1 ∧ u2 ≤ u3 ∧ mn3 u1 u2 u3 = u2) ∨ (u1 ≤ u2 ∧ u3 < u1 ∧ mn3 u1 u2 u3 = u3) ∨ (u1 ≤ u2 ∧ u1 ≤ u3 ∧ mn3 u1 u2 u3 = u1) := by
                rw [hmn]
                (repeat' split) <;> omega
              have HLET := Lib.hid (And.intro hu1 (And.intro hu2 hu3))
              have HC : Hid (∀ W, Bel w W → W.cell? (ad.add i) = some (.int .i64 x) ∧ W.cell? (ad'.add j) = some (.int .i64 y)) := fun W hW => ⟨hW.kp c1, hW.kp c2⟩
              have hne : ¬ ((i : Int) = (nl : Int) ∧ (j : Int) = (ml : Int)) := by have := HNL.out; omega
              clear hu1 hu2 hu3 hmn BD h1 h2 IH hB ec he
              rcases hcase with ⟨l1, l2, l3⟩ | ⟨l1, l2, l3⟩ | ⟨l1, l2, l3⟩ | ⟨l1, l2, l3⟩
              · rw [l3] at e
                have HE := Lib.hid e
                obtain ⟨q, hq⟩ : ∃ q, r + u3 = q := ⟨_, rfl⟩
                have wq : wrap64 q = q := IntWalk.wrap64_in _ (by omega)
                rw [hq] at HE
                have l1n : ¬ u1 ≤ u2 := by omega
                have l2n : ¬ u2 ≤ u3 := by omega
                clear e l3
                rcases Int.lt_or_le q 4611686018427387904 with q1 | q1
                all_goals
                  rcases (show (i : Int) = (nl : Int) ∨ ¬ (i : Int) = (nl : Int) by omega) with he1 | he1
                  · have he2 : ¬ (j : Int) = (ml : Int) := fun h => hne ⟨he1, h⟩
                    have he1b : ((i : Int) == (nl : Int)) = true := by simpa using he1
                    have he2b : ((j : Int) == (ml : Int)) = false := by simpa using he2
                    obtain rfl : i = nl := by omega
                    clear hne he1
                    go_enter Try.func21, Try.ntmps21
                    go_wp2_with fail
                    go_quiet (fail)
                    obtain ⟨p0, hp0⟩ : ∃ W, W = w.drewN nq := ⟨_, rfl⟩
                    have HP0 : Hid (Bel w p0) := by rw [hp0]; exact Bel.rf.drwN _
                    rw [← hp0]
                    clear hp0 c1 c2
                    go_wp2_with fail
                    go_at_call 21
                    refine (F1.out _ HP0.out).mono ?_
                    rintro e' p1 ⟨rfl, hb⟩
                    have HP1 := Lib.hid (HP0.out.tr hb)
                    clear hb
                    go_wp2_with fail
                    go_at_call 21
                    refine (F2.out _ HP1.out).mono ?_
                    rintro e' p2 ⟨rfl, hb⟩
                    have HP2 := Lib.hid (HP1.out.tr hb)
                    clear hb
                    go_wp2_with fail
                    go_at_call 21
                    refine (F3.out _ HP2.out).mono ?_
                    rintro e' p3 ⟨rfl, hb⟩
                    have HP3 := Lib.hid (HP2.out.tr hb)
                    clear hb
                    go_wp2
                    all_goals (go_ret; exact ⟨ret_int (by rw [HE.out]; (unfold mn far; (repeat' split) <;> omega)), HP3.out⟩)
                  · have he1b : ((i : Int) == (nl : Int)) = false := by simpa using he1
                    clear hne
                    go_enter Try.func21, Try.ntmps21
                    go_wp2_with fail
                    go_quiet (fail)
                    obtain ⟨p0, hp0⟩ : ∃ W, W = w.drewN nq := ⟨_, rfl⟩
                    have HP0 : Hid (Bel w p0) := by rw [hp0]; exact Bel.rf.drwN _
                    rw [← hp0]
                    clear hp0 c1 c2
                    go_wp2_with fail
                    go_at_call 21
                    refine (F1.out _ HP0.out).mono ?_
                    rintro e' p1 ⟨rfl, hb⟩
                    have HP1 := Lib.hid (HP0.out.tr hb)
                    clear hb
                    go_wp2_with fail
                    go_at_call 21
                    refine (F2.out _ HP1.out).mono ?_
                    rintro e' p2 ⟨rfl, hb⟩
                    have HP2 := Lib.hid (HP1.out.tr hb)
                    clear hb
                    go_wp2_with fail
                    go_at_call 21
                    refine (F3.out _ HP2.out).mono ?_
                    rintro e' p3 ⟨rfl, hb⟩
                    have HP3 := Lib.hid (HP2.out.tr hb)
                    clear hb
                    go_wp2
                    all_goals (go_ret; exact ⟨ret_int (by rw [HE.out]; (unfold mn far; (repeat' split) <;> omega)), HP3.out⟩)
              · rw [l3] at e
                have HE := Lib.hid e
                obtain ⟨q, hq⟩ : ∃ q, r + u2 = q := ⟨_, rfl⟩
                have wq : wrap64 q = q := IntWalk.wrap64_in _ (by omega)
                rw [hq] at HE
                have l1n : ¬ u1 ≤ u2 := by omega
                have l2n : ¬ u3 < u2 := by omega
                clear e l3
                rcases Int.lt_or_le q 4611686018427387904 with q1 | q1
                all_goals
                  rcases (show (i : Int) = (nl : Int) ∨ ¬ (i : Int) = (nl : Int) by omega) with he1 | he1
                  · have he2 : ¬ (j : Int) = (ml : Int) := fun h => hne ⟨he1, h⟩
                    have he1b : ((i : Int) == (nl : Int)) = true := by simpa using he1
                    have he2b : ((j : Int) == (ml : Int)) = false := by simpa using he2
                    obtain rfl : i = nl := by omega
                    clear hne he1
                    go_enter Try.func21, Try.ntmps21
                    go_wp2_with fail
                    go_quiet (fail)
                    obtain ⟨p0, hp0⟩ : ∃ W, W = w.drewN nq := ⟨_, rfl⟩
                    have HP0 : Hid (Bel w p0) := by rw [hp0]; exact Bel.rf.drwN _
                    rw [← hp0]
                    clear hp0 c1 c2
                    go_wp2_with fail
                    go_at_call 21
                    refine (F1.out _ HP0.out).mono ?_
                    rintro e' p1 ⟨rfl, hb⟩
                    have HP1 := Lib.hid (HP0.out.tr hb)
                    clear hb
                    go_wp2_with fail
                    go_at_call 21
                    refine (F2.out _ HP1.out).mono ?_
                    rintro e' p2 ⟨rfl, hb⟩
                    have HP2 := Lib.hid (HP1.out.tr hb)
                    clear hb
                    go_wp2_with fail
                    go_at_call 21
                    refine (F3.out _ HP2.out).mono ?_
                    rintro e' p3 ⟨rfl, hb⟩
                    have HP3 := Lib.hid (HP2.out.tr hb)
                    clear hb
                    go_wp2
                    all_goals (go_ret; exact ⟨ret_int (by rw [HE.out]; (unfold mn far; (repeat' split) <;> omega)), HP3.out⟩)
                  · have he1b : ((i : Int) == (nl : Int)) = false := by simpa using he1
                    clear hne
                    go_enter Try.func21, Try.ntmps21
                    go_wp2_with fail
                    go_quiet (fail)
                    obtain ⟨p0, hp0⟩ : ∃ W, W = w.drewN nq := ⟨_, rfl⟩
                    have HP0 : Hid (Bel w p0) := by rw [hp0]; exact Bel.rf.drwN _
                    rw [← hp0]
                    clear hp0 c1 c2
                    go_wp2_with fail
                    go_at_call 21
                    refine (F1.out _ HP0.out).mono ?_
                    rintro e' p1 ⟨rfl, hb⟩
                    have HP1 := Lib.hid (HP0.out.tr hb)
                    clear hb
                    go_wp2_with fail
                    go_at_call 21
                    refine (F2.out _ HP1.out).mono ?_
                    rintro e' p2 ⟨rfl, hb⟩
                    have HP2 := Lib.hid (HP1.out.tr hb)
                    clear hb
                    go_wp2_with fail
                    go_at_call 21
                    refine (F3.out _ HP2.out).mono ?_
                    rintro e' p3 ⟨rfl, hb⟩
                    have HP3 := Lib.hid (HP2.out.tr hb)
                    clear hb
                    go_wp2
                    all_goals (go_ret; exact ⟨ret_int (by rw [HE.out]; (unfold mn far; (repeat' split) <;> omega)), HP3.out⟩)
              · rw [l3] at e
                have HE := Lib.hid e
                obtain ⟨q, hq⟩ : ∃ q, r + u3 = q := ⟨_, rfl⟩
                have wq : wrap64 q = q := IntWalk.wrap64_in _ (by omega)
                rw [hq] at HE
                have l1n : ¬ u2 < u1 := by omega
                have l2n : ¬ u1 ≤ u3 := by omega
                clear e l3
                rcases Int.lt_or_le q 4611686018427387904 with q1 | q1
                all_goals
                  rcases (show (i : Int) = (nl : Int) ∨ ¬ (i : Int) = (nl : Int) by omega) with he1 | he1
                  · have he2 : ¬ (j : Int) = (ml : Int) := fun h => hne ⟨he1, h⟩
                    have he1b : ((i : Int) == (nl : Int)) = true := by simpa using he1
                    have he2b : ((j : Int) == (ml : Int)) = false := by simpa using he2
                    obtain rfl : i = nl := by omega
                    clear hne he1
                    go_enter Try.func21, Try.ntmps21
                    go_wp2_with fail
                    go_quiet (fail)
                    obtain ⟨p0, hp0⟩ : ∃ W, W = w.drewN nq := ⟨_, rfl⟩
                    have HP0 : Hid (Bel w p0) := by rw [hp0]; exact Bel.rf.drwN _
                    rw [← hp0]
                    clear hp0 c1 c2
                    go_wp2_with fail
                    go_at_call 21
                    refine (F1.out _ HP0.out).mono ?_
                    rintro e' p1 ⟨rfl, hb⟩
                    have HP1 := Lib.hid (HP0.out.tr hb)
                    clear hb
                    go_wp2_with fail
                    go_at_call 21
                    refine (F2.out _ HP1.out).mono ?_
                    rintro e' p2 ⟨rfl, hb⟩
                    have HP2 := Lib.hid (HP1.out.tr hb)
                    clear hb
                    go_wp2_with fail
                    go_at_call 21
                    refine (F3.out _ HP2.out).mono ?_
                    rintro e' p3 ⟨rfl, hb⟩
                    have HP3 := Lib.hid (HP2.out.tr hb)
                    clear hb
                    go_wp2
                    all_goals (go_ret; exact ⟨ret_int (by rw [HE.out]; (unfold mn far; (repeat' split) <;> omega)), HP3.out⟩)
                  · have he1b : ((i : Int) == (nl : Int)) = false := by simpa using he1
                    clear hne
                    go_enter Try.func21, Try.ntmps21
                    go_wp2_with fail
                    go_quiet (fail)
                    obtain ⟨p0, hp0⟩ : ∃ W, W = w.drewN nq := ⟨_, rfl⟩
                    have HP0 : Hid (Bel w p0) := by rw [hp0]; exact Bel.rf.drwN _
                    rw [← hp0]
                    clear hp0 c1 c2
                    go_wp2_with fail
                    go_at_call 21
                    refine (F1.out _ HP0.out).mono ?_
                    rintro e' p1 ⟨rfl, hb⟩
                    have HP1 := Lib.hid (HP0.out.tr hb)
                    clear hb
                    go_wp2_with fail
                    go_at_call 21
                    refine (F2.out _ HP1.out).mono ?_
                    rintro e' p2 ⟨rfl, hb⟩
                    have HP2 := Lib.hid (HP1.out.tr hb)
                    clear hb
                    go_wp2_with fail
                    go_at_call 21
                    refine (F3.out _ HP2.out).mono ?_
                    rintro e' p3 ⟨rfl, hb⟩
                    have HP3 := Lib.hid (HP2.out.tr hb)
                    clear hb
                    go_wp2
                    all_goals (go_ret; exact ⟨ret_int (by rw [HE.out]; (unfold mn far; (repeat' split) <;> omega)), HP3.out⟩)
              · rw [l3] at e
                have HE := Lib.hid e
                obtain ⟨q, hq⟩ : ∃ q, r + u1 = q := ⟨_, rfl⟩
                have wq : wrap64 q = q := IntWalk.wrap64_in _ (by omega)
                rw [hq] at HE
                have l1n : ¬ u2 < u1 := by omega
                have l2n : ¬ u3 < u1 := by omega
                clear e l3
                rcases Int.lt_or_le q 4611686018427387904 with q1 | q1
                all_goals
                  rcases (show (i : Int) = (nl : Int) ∨ ¬ (i : Int) = (nl : Int) by omega) with he1 | he1
                  · have he2 : ¬ (j : Int) = (ml : Int) := fun h => hne ⟨he1, h⟩
                    have he1b : ((i : Int) == (nl : Int)) = true := by simpa using he1
                    have he2b : ((j : Int) == (ml : Int)) = false := by simpa using he2
                    obtain rfl : i = nl := by omega
                    clear hne he1
                    go_enter Try.func21, Try.ntmps21
                    go_wp2_with fail
                    go_quiet (fail)
                    obtain ⟨p0, hp0⟩ : ∃ W, W = w.drewN nq := ⟨_, rfl⟩
                    have HP0 : Hid (Bel w p0) := by rw [hp0]; exact Bel.rf.drwN _
                    rw [← hp0]
                    clear hp0 c1 c2
                    go_wp2_with fail
                    go_at_call 21
                    refine (F1.out _ HP0.out).mono ?_
                    rintro e' p1 ⟨rfl, hb⟩
                    have HP1 := Lib.hid (HP0.out.tr hb)
                    clear hb
                    go_wp2_with fail
                    go_at_call 21
                    refine (F2.out _ HP1.out).mono ?_
                    rintro e' p2 ⟨rfl, hb⟩
                    have HP2 := Lib.hid (HP1.out.tr hb)
                    clear hb
                    go_wp2_with fail
                    go_at_call 21
                    refine (F3.out _ HP2.out).mono ?_
                    rintro e' p3 ⟨rfl, hb⟩
                    have HP3 := Lib.hid (HP2.out.tr hb)
                    clear hb
                    go_wp2
                    all_goals (go_ret; exact ⟨ret_int (by rw [HE.out]; (unfold mn far; (repeat' split) <;> omega)), HP3.out⟩)
                  · have he1b : ((i : Int) == (nl : Int)) = false := by simpa using he1
                    clear hne
                    go_enter Try.func21, Try.ntmps21
                    go_wp2_with fail
                    go_quiet (fail)
                    obtain ⟨p0, hp0⟩ : ∃ W, W = w.drewN nq := ⟨_, rfl⟩
                    have HP0 : Hid (Bel w p0) := by rw [hp0]; exact Bel.rf.drwN _
                    rw [← hp0]
                    clear hp0 c1 c2
                    go_wp2_with fail
                    go_at_call 21
                    refine (F1.out _ HP0.out).mono ?_
                    rintro e' p1 ⟨rfl, hb⟩
                    have HP1 := Lib.hid (HP0.out.tr hb)
                    clear hb
                    go_wp2_with fail
                    go_at_call 21
                    refine (F2.out _ HP1.out).mono ?_
                    rintro e' p2 ⟨rfl, hb⟩
                    have HP2 := Lib.hid (HP1.out.tr hb)
                    clear hb
                    go_wp2_with fail
                    go_at_call 21
                    refine (F3.out _ HP2.out).mono ?_
                    rintro e' p3 ⟨rfl, hb⟩
                    have HP3 := Lib.hid (HP2.out.tr hb)
                    clear hb
                    go_wp2
                    all_goals (go_ret; exact ⟨ret_int (by rw [HE.out]; (unfold mn far; (repeat' split) <;> omega)), HP3.out⟩)
      · have e := wa_out (X := X) (Y := Y) (b := b) (n := n) (m := m) (i := i) (j := j) (.inr (.inl hjm))
        have HE := Lib.hid e
        obtain rfl : j = m := by omega
        clear e BD h1 h2 IH
        go_enter Try.func21, Try.ntmps21
        go_wp2
        go_ret
        exact ⟨ret_int HE.out.symm, Bel.rf⟩
    · have e := wa_out (X := X) (Y := Y) (b := b) (n := n) (m := m) (i := i) (j := j) (.inl hin)
      have HE := Lib.hid e
      obtain rfl : i = n := by omega
      clear e BD h1 h2 IH
      go_enter Try.func21, Try.ntmps21
      go_wp2
      go_ret
      exact ⟨ret_int HE.out.symm, Bel.rf⟩
end Go.Proofs.Ytkjffielnmdpcaa.Wa
