/- The contract of warp.Path. -/
import Derived.Test.YtkjffielnmdpcaaWarp8
import Derived.BigQuiet
namespace Go.Proofs.Ytkjffielnmdpcaa.Wa
open Go.ChangeShapes Go.WideShapes Go.RowKit Wo Sr Wi Ed
set_option linter.unusedVariables false
set_option maxHeartbeats 1000000 in
set_option maxRecDepth 100000 in
theorem path_ok (A A' : Option Addr) (c c' n m : Nat) (L M : List Int) (b : Int) (n1 : 2 ≤ n) (n2 : n ≤ 32) (m1 : 2 ≤ m) (m2 : m ≤ 32) (b0 : 0 ≤ b) (b32 : b ≤ 32) (b1 : (n : Int) - (m : Int) ≤ b) (b2 : (m : Int) - (n : Int) ≤ b) (hs : Sam L) (ht : Sam M) (w : World) (h1 : Zi w A n L) (h2 : Zi w A' m M) :
    Calls Try.prog 17 #[.slice A n c, .slice A' m c', .int .i64 b] w fun e w' => ∃ h cc T, e = .returned (.tuple #[.slice (some ⟨h, 0, none⟩) (T + 1) cc, .int .i64 0]) ∧ w'.ownsRow w.heap.size 64 2 (.slice (some ⟨h, 0, none⟩) (T + 1) cc) (T + 1) (ps (trs L M b n m T).reverse) ∧ tr L M b n m T = (0, 0) ∧ (∀ u, u < T → tr L M b n m u ≠ (0, 0)) ∧ Bel w w' := by
  have hmf : ∀ (fn : Fn) (first cap : Array Value) (w : World), (Instr.makeFunc fn first cap).run Try.prog w = .ok (.func fn first cap) w := fun _ _ _ _ => rfl
  have HW : Hid (∀ W, Bel w W → Calls Try.prog 35 #[.slice A n c, .slice A' m c', .int .i64 b] W fun e w' => e = .returned (.int .i64 0) ∧ Bel W w') := fun W hW => warped_ok A A' c c' n m L M b n1 n2 m1 m2 b0 b32 b1 b2 hs ht W (h1.bel hW) (h2.bel hW)
  have hBn : Bnd b (n - 1) (m - 1) := ⟨by omega, by omega⟩
  have HTR : Hid (∀ t, (∀ u, u < t → tr L M b n m u ≠ (0, 0)) → _) := tr_bd hs ht b0 (n := n) (m := m) (by omega) (by omega) hBn
  have HS : Hid (∀ (w2 : World) (a0 : Nat), Bel w w2 → w.heap.size ≤ a0 → Bk w2 a0 3 (zs (List.replicate (m + 1) far)).toArray → Calls Try.prog 36 #[.slice A n c, .slice A' m c', .int .i64 b, .func (.func 39) #[] #[.pointer (some ⟨w2.heap.size + 1, 0, none⟩)]] ((w2.alloc (.cells #[.slice (some ⟨a0, 0, none⟩) (m + 1) (m + 1)] 22)).alloc (.cells #[.slice (some ⟨w2.heap.size, 0, none⟩) 1 1] 62)) fun e w' => e = .returned (.tuple #[]) ∧ ∃ p q, JP w (w2.heap.size + 1) m L M b p q n w') := fun w2 a0 hb2 ha hk =>
    search_any A A' c c' n m L M b (by omega) (by omega) (by omega) (by omega) b0 b32 hs ht 39 _ (JP w (w2.heap.size + 1) m L M b) enters_p (shows_p w (w2.heap.size + 1) A A' n m (by omega) (by omega) L M b h1 h2) _ (fun p q W hW hp hq => jp_start hb2 ha hk hW (by simpa using hp) (by simpa using hq)) ((h2.bel hb2).bel ((Bel.rf.al _).al _))
  have BB : Hid (∀ i j, i ≤ 60 → j ≤ 60 → Bnd b i j → 0 < i + j → (wt L M b i j ≤ wt L M b i (j + 1) ∧ wt L M b i j ≤ wt L M b (i + 1) j) → 1 ≤ i ∧ 1 ≤ j) := fun i j hi hj hB h0 h => bk_both hs ht b0 hi hj hB h0 h
  have BL : Hid (∀ i j, i ≤ 60 → j ≤ 60 → Bnd b i j → 0 < i + j → ¬ (wt L M b i j ≤ wt L M b i (j + 1) ∧ wt L M b i j ≤ wt L M b (i + 1) j) → wt L M b i (j + 1) ≤ wt L M b (i + 1) j → 1 ≤ i) := fun i j hi hj hB h0 h h' => bk_left hs ht b0 hi hj hB h0 h h'
  have BR : Hid (∀ i j, i ≤ 60 → j ≤ 60 → Bnd b i j → 0 < i + j → ¬ (wt L M b i j ≤ wt L M b i (j + 1) ∧ wt L M b i j ≤ wt L M b (i + 1) j) → ¬ wt L M b i (j + 1) ≤ wt L M b (i + 1) j → 1 ≤ j) := fun i j hi hj hB h0 h h' => bk_right hs ht b0 hi hj hB h0 h h'
  have i2 : (n : Int) ≤ 32 := by omega
  have i4 : (m : Int) ≤ 32 := by omega
  obtain ⟨nl, hnl⟩ : ∃ k, n - 1 = k := ⟨_, rfl⟩
  obtain ⟨ml, hml⟩ : ∃ k, m - 1 = k := ⟨_, rfl⟩
  have hnli : (n : Int) - 1 = (nl : Int) := by omega
  have hmli : (m : Int) - 1 = (ml : Int) := by omega
  have wnl : wrap64 (nl : Int) = (nl : Int) := IntWalk.wrap64_in _ (by omega)
  have wml : wrap64 (ml : Int) = (ml : Int) := IntWalk.wrap64_in _ (by omega)
  have HNL := Lib.hid (And.intro hnl hml)
  clear h1 h2 hs ht hBn hnl hml
  go_enter Try.func17, Try.ntmps17
  go_wp2_with fail
  go_at_call 35
  refine (HW.out _ Bel.rf).mono ?_
  rintro e w1 ⟨rfl, hb1⟩
  have HB1 := Lib.hid hb1
  clear hb1
  go_wp2_with fail
  go_at_call 38
  refine (border_ok A' c' m (by omega) _).mono ?_
  rintro e w2 ⟨a0, rfl, ha1, ha2, ha3⟩
  have HB2 := Lib.hid (HB1.out.tr ha3)
  have HK2 := Lib.hid ha2
  have ha0 : w.heap.size ≤ a0 := by have := HB1.out.size; omega
  clear ha2 ha3
  go_wp2_with fail
  go_at_call 36
  refine (HS.out w2 a0 HB2.out ha0 HK2.out).mono ?_
  rintro e w5 ⟨rfl, p, q, j1, j2, j3, j4, v, R, j5, j6, _, _, j9⟩
  obtain ⟨gc, hgc⟩ : ∃ gc, w2.heap.size + 1 = gc := ⟨_, rfl⟩
  rw [hgc] at j2 j3 j4 j5
  obtain ⟨gr, cr, rfl⟩ : ∃ g c, v = .slice (some ⟨g, 0, none⟩) (n + 1) c := by
    obtain ⟨A, c, rfl, hA⟩ := own_any j6
    obtain ⟨g, rfl⟩ := hA (by omega)
    exact ⟨g, c, rfl⟩
  have HJ1 := Lib.hid j1
  have HGC := Lib.hid j5
  have HROW : Hid (∀ t, t ≤ n → ∃ a c, w5.cell? ⟨gr, t, none⟩ = some (.slice (some ⟨a, 0, none⟩) (m + 1) c) ∧ ∀ j, j ≤ m → 0 < t + j → w5.cell? ⟨a, j, none⟩ = some (.int .i64 (wt L M b t j))) := fun t ht => by
    obtain ⟨a, c, cur, k1, k2, k3, _⟩ := j9 t ht
    exact ⟨a, c, row_cell j6 k1, fun j hj h0 => by rw [k2.cell]; exact k3 j hj h0⟩
  have HR0 : Hid (((w5.alloc (.cells #[.int .i64 (nl : Int), .int .i64 (ml : Int)] 64))).ownsRow w5.heap.size 64 2 (.slice (some ⟨w5.heap.size, 0, none⟩) 1 1) 1 (ps (trs L M b n m 0))) := by
    rw [trs_zero, HNL.out.1, HNL.out.2]
    exact ⟨rfl, .inr ⟨_, 1, _, rfl, Nat.le_refl _, Bk.nw _ _ _, Nat.le_refl _, by unfold maxLen; omega, rfl, rfl⟩⟩
  obtain ⟨N, hN⟩ : ∃ N, n + 1 = N := ⟨_, rfl⟩
  obtain ⟨M1, hM1⟩ : ∃ N, m + 1 = N := ⟨_, rfl⟩
  rw [hN] at HGC
  rw [hM1] at HROW
  have hNi : (N : Int) = (n : Int) + 1 := by omega
  have hMi : (M1 : Int) = (m : Int) + 1 := by omega
  have HNM := Lib.hid (And.intro hNi hMi)
  clear j1 j2 j3 j4 j5 j6 j9 hNi hMi hN hM1 HK2 HS HW
  try simp only [hgc]
  clear hgc
  go_wp2
  go_loopw [10, 11, 12] (fun s10 s11 s12 wr => ∃ (t : Nat) (V : World) (u : Value), V = wr ∧ u = s12 ∧ (∀ u, u < t → tr L M b n m u ≠ (0, 0)) ∧ s10 = .int .i64 ((tr L M b n m t).1 : Int) ∧ s11 = .int .i64 ((tr L M b n m t).2 : Int) ∧ wr.ownsRow w5.heap.size 64 2 s12 (t + 1) (ps (trs L M b n m t)) ∧ Bel w5 wr) (fun s10 s11 _ _ => (intOf s10).toNat + (intOf s11).toNat)
  case atStart =>
    refine ⟨0, _, _, rfl, rfl, fun u hu => by omega, ?_, ?_, HR0.out, Bel.rf.al _⟩
    · show _ = Value.int .i64 ((n - 1 : Nat) : Int); rw [HNL.out.1]
    · show _ = Value.int .i64 ((m - 1 : Nat) : Int); rw [HNL.out.2]
  case round =>
    clear HR0
    obtain ⟨t, wr, u, hwr, hu, hne, rfl, rfl, hown, hb⟩ := hrel
    subst hwr hu
    obtain ⟨d1, d2, d3, d4⟩ := HTR.out t hne
    obtain ⟨x, hx⟩ : ∃ x, tr L M b n m t = x := ⟨_, rfl⟩
    have hx1 : tr L M b n m (t + 1) = bk L M b (tr L M b n m t).1 (tr L M b n m t).2 := rfl
    rw [hx] at d1 d2 d3 d4 hx1 ⊢
    obtain ⟨i, j⟩ := x
    simp only at d1 d2 d3 d4 hx1 ⊢
    have HO := Lib.hid hown
    have HB := Lib.hid hb
    have HNE := Lib.hid hne
    have HX := Lib.hid (And.intro hx hx1)
    have ht64 : t ≤ 64 := by omega
    have c0 := hb.kp (HGC.out.cell 0)
    simp at c0
    rcases Nat.eq_zero_or_pos (i + j) with h0 | h0
    · obtain rfl : i = 0 := by omega
      obtain rfl : j = 0 := by omega
      obtain ⟨h, cc, rfl, hcc, hh⟩ := prow_form hown (by omega)
      have RV := Lib.hid (reverse_p w5.heap.size h cc (t + 1) (trs L M b n m t) (trs_len _ _ _ _ _ _) (by omega) (by omega) wr w5 hown hb hh)
      clear hown hb hne hx hx1 d1 d2 d3 d4 c0
      go_wp2_with fail
      go_at_call 41
      refine RV.out.mono ?_
      rintro e w9 ⟨rfl, ho, hb⟩
      have HO9 := Lib.hid ho
      have HB9 := Lib.hid hb
      clear ho hb
      go_wp2
      go_ret2
      exact ⟨h, cc, t, rfl, own_low HO9.out HJ1.out.size, HX.out.1, HNE.out, HJ1.out.tr HB9.out⟩
    · obtain ⟨a, ca, r1', k12⟩ := HROW.out i (by omega)
      obtain ⟨a', ca', r2', k3'⟩ := HROW.out (i + 1) (by omega)
      have k1 := hb.kp (k12 j (by omega) (by omega))
      have k2 := hb.kp (k12 (j + 1) (by omega) (by omega))
      have k3 := hb.kp (k3' j (by omega) (by omega))
      have r1 := hb.kp r1'
      have r2 := hb.kp r2'
      have qB := BB.out i j (by omega) (by omega) d3 h0
      have qL := BL.out i j (by omega) (by omega) d3 h0
      have qR := BR.out i j (by omega) (by omega) d3 h0
      have hbk : bk L M b i j = if wt L M b i j ≤ wt L M b i (j + 1) ∧ wt L M b i j ≤ wt L M b (i + 1) j then (i - 1, j - 1) else if wt L M b i (j + 1) ≤ wt L M b (i + 1) j then (i - 1, j) else (i, j - 1) := rfl
      obtain ⟨e1, he1⟩ : ∃ e, wt L M b i j = e := ⟨_, rfl⟩
      obtain ⟨e2, he2⟩ : ∃ e, wt L M b i (j + 1) = e := ⟨_, rfl⟩
      obtain ⟨e3, he3⟩ : ∃ e, wt L M b (i + 1) j = e := ⟨_, rfl⟩
      rw [he1] at k1 qB qL qR hbk
      rw [he2] at k2 qB qL qR hbk
      rw [he3] at k3 qB qL qR hbk
      obtain ⟨i', hi'⟩ : ∃ k, i + 1 = k := ⟨_, rfl⟩
      obtain ⟨j', hj'⟩ : ∃ k, j + 1 = k := ⟨_, rfl⟩
      rw [hi'] at r2
      rw [hj'] at k2
      have hii : (i : Int) + 1 = (i' : Int) := by omega
      have hji : (j : Int) + 1 = (j' : Int) := by omega
      have zi' : -9223372036854775808 ≤ (i' : Int) ∧ (i' : Int) ≤ 9223372036854775807 := by omega
      have zj' : -9223372036854775808 ≤ (j' : Int) ∧ (j' : Int) ≤ 9223372036854775807 := by omega
      have wi1 : IntKind.i64.wrap (i' : Int) = (i' : Int) := IntWalk.i64_in _ zi'
      have wj1 : IntKind.i64.wrap (j' : Int) = (j' : Int) := IntWalk.i64_in _ zj'
      have y1 : (i : Int) < (N : Int) := by have := HNM.out; omega
      have y2 : (i' : Int) < (N : Int) := by have := HNM.out; omega
      have y3 : (j : Int) < (M1 : Int) := by have := HNM.out; omega
      have y4 : (j' : Int) < (M1 : Int) := by have := HNM.out; omega
      have i40 : i ≤ 40 := by omega
      have j40 : j ≤ 40 := by omega
      have HIJ := Lib.hid (And.intro d1 (And.intro d2 (And.intro d4 (And.intro hi' (And.intro hj' h0)))))
      have HBK := Lib.hid hbk
      clear zi' zj' hown hb hne hx hx1 d1 d2 d3 d4 he1 he2 he3 hi' hj' k12 hbk r1' r2' k3' h0
      rcases Int.lt_or_le e2 e1 with l1 | l1
      · clear qB
        rcases Int.lt_or_le e3 e2 with l2 | l2
        · have q1 := qR (by omega) (by omega)
          have x1 : ¬ e1 ≤ e2 := by omega
          have x1d : decide (e1 ≤ e2) = false := decide_eq_false x1
          have x2 : ¬ e2 ≤ e3 := by omega
          have x2d : decide (e2 ≤ e3) = false := decide_eq_false x2
          clear qL qR
          have hnx : bk L M b i j = (i, j - 1) := by rw [HBK.out, if_neg (by omega), if_neg (by omega)]
          obtain ⟨jq, hjq⟩ : ∃ k, j - 1 = k := ⟨_, rfl⟩
          have hjqi : (j : Int) - 1 = (jq : Int) := by omega
          have zjq : -9223372036854775808 ≤ (jq : Int) ∧ (jq : Int) ≤ 9223372036854775807 := by omega
          rw [hjq] at hnx
          have HQ := Lib.hid (And.intro hjq (And.intro hnx q1))
          clear hnx q1 hjq zjq
          rcases Nat.eq_zero_or_pos i with hi0 | hi0
          · subst hi0
            have hj0 : (j : Int) > 0 := by have := HQ.out; omega
            obtain rfl : i' = 1 := by have := HIJ.out; omega
            have y1n : (0 : Int) < (N : Int) := y1
            have y2n : (1 : Int) < (N : Int) := y2
            clear hii wi1 y1 y2 i40
            try rw [show ((0 : Nat) : Int) = 0 from rfl]
            go_wp2_with fail
            go_quiet (fail)
            go_wp2_with (at_builtin; refine list_appg _ rfl _ _ 30 64 (.agg #[.int .i64 0, .int .i64 0]) 2 16 Try.underlying30 info_pair rfl (by decide) rfl w5.heap.size u (t + 1) (ps (trs L M b n m t)) rfl ((own_bel HO.out (by repeat (first | exact Bel.rf | (with_reducible refine Bel.drwN ?_ _) | (with_reducible refine Bel.drw ?_) | (with_reducible refine Bel.al ?_ _)))).alloc _) ⟨wr.heap.size, 0, none⟩ 1 1 [.int .i64 0, .int .i64 (jq : Int)] rfl rfl (World.news_of_block (cs := #[.int .i64 0, .int .i64 (jq : Int)]) (t := 64) (fr := (0, 0)) (heap_alloc_new _ _)) (by simp [Value.oneCell']) (by omega) (by decide) (by have := HB.out.size; simp; omega) ?_; intro v' w6 hown6 hgr6 hat6)
            have HO6 : Hid (w6.ownsRow w5.heap.size 64 2 v' (t + 1 + 1) (ps (trs L M b n m (t + 1)))) := by
              rw [trs_succ, ps_app, HX.out.2, HQ.out.2.1]
              exact hown6
            have HB6 : Hid (Bel w5 w6) := grown_bel (Bel.al (by repeat (first | exact HB.out | (with_reducible refine Bel.drwN ?_ _) | (with_reducible refine Bel.drw ?_))) _) hgr6 (fun q e => (HO.out.lt q e).1)
            clear hown6 hgr6 hat6
            go_wp2
            go_roundw
            case rel =>
              refine ⟨t + 1, _, _, rfl, rfl, fun k hk => ?_, ?_, ?_, HO6.out, HB6.out⟩
              · rcases Nat.lt_or_ge k t with h | h
                · exact HNE.out k h
                · obtain rfl : k = t := by omega
                  rw [HX.out.1]
                  intro e
                  injection e with e1 e2
                  have := HIJ.out
                  omega
              · first | (rw [HX.out.2, HQ.out.2.1]; done) | (rw [HX.out.2, HQ.out.2.1]; rfl)
              · first | (rw [HX.out.2, HQ.out.2.1]; done) | (rw [HX.out.2, HQ.out.2.1]; rfl)
            case measure => (have := HQ.out; have := HIJ.out; simp [intOf]; omega)
          · have hor : (i : Int) > 0 := by omega
            clear hi0
            go_wp2_with fail
            go_quiet (fail)
            go_wp2_with (at_builtin; refine list_appg _ rfl _ _ 30 64 (.agg #[.int .i64 0, .int .i64 0]) 2 16 Try.underlying30 info_pair rfl (by decide) rfl w5.heap.size u (t + 1) (ps (trs L M b n m t)) rfl ((own_bel HO.out (by repeat (first | exact Bel.rf | (with_reducible refine Bel.drwN ?_ _) | (with_reducible refine Bel.drw ?_) | (with_reducible refine Bel.al ?_ _)))).alloc _) ⟨wr.heap.size, 0, none⟩ 1 1 [.int .i64 (i : Int), .int .i64 (jq : Int)] rfl rfl (World.news_of_block (cs := #[.int .i64 (i : Int), .int .i64 (jq : Int)]) (t := 64) (fr := (0, 0)) (heap_alloc_new _ _)) (by simp [Value.oneCell']) (by omega) (by decide) (by have := HB.out.size; simp; omega) ?_; intro v' w6 hown6 hgr6 hat6)
            have HO6 : Hid (w6.ownsRow w5.heap.size 64 2 v' (t + 1 + 1) (ps (trs L M b n m (t + 1)))) := by
              rw [trs_succ, ps_app, HX.out.2, HQ.out.2.1]
              exact hown6
            have HB6 : Hid (Bel w5 w6) := grown_bel (Bel.al (by repeat (first | exact HB.out | (with_reducible refine Bel.drwN ?_ _) | (with_reducible refine Bel.drw ?_))) _) hgr6 (fun q e => (HO.out.lt q e).1)
            clear hown6 hgr6 hat6
            go_wp2
            go_roundw
            case rel =>
              refine ⟨t + 1, _, _, rfl, rfl, fun k hk => ?_, ?_, ?_, HO6.out, HB6.out⟩
              · rcases Nat.lt_or_ge k t with h | h
                · exact HNE.out k h
                · obtain rfl : k = t := by omega
                  rw [HX.out.1]
                  intro e
                  injection e with e1 e2
                  have := HIJ.out
                  omega
              · first | (rw [HX.out.2, HQ.out.2.1]; done) | (rw [HX.out.2, HQ.out.2.1]; rfl)
              · first | (rw [HX.out.2, HQ.out.2.1]; done) | (rw [HX.out.2, HQ.out.2.1]; rfl)
            case measure => (have := HQ.out; have := HIJ.out; simp [intOf]; omega)
        · have q1 := qL (by omega) l2
          have x1 : ¬ e1 ≤ e2 := by omega
          have x1d : decide (e1 ≤ e2) = false := decide_eq_false x1
          have l2d : decide (e2 ≤ e3) = true := decide_eq_true l2
          clear qL qR
          have hnx : bk L M b i j = (i - 1, j) := by rw [HBK.out, if_neg (by omega), if_pos l2]
          obtain ⟨iq, hiq⟩ : ∃ k, i - 1 = k := ⟨_, rfl⟩
          have hiqi : (i : Int) - 1 = (iq : Int) := by omega
          have ziq : -9223372036854775808 ≤ (iq : Int) ∧ (iq : Int) ≤ 9223372036854775807 := by omega
          rw [hiq] at hnx
          have HQ := Lib.hid (And.intro hiq (And.intro hnx q1))
          clear hnx q1 hiq ziq
          have hor : (i : Int) > 0 := by have := HQ.out; omega
          go_wp2_with fail
          go_quiet (fail)
          go_wp2_with (at_builtin; refine list_appg _ rfl _ _ 30 64 (.agg #[.int .i64 0, .int .i64 0]) 2 16 Try.underlying30 info_pair rfl (by decide) rfl w5.heap.size u (t + 1) (ps (trs L M b n m t)) rfl ((own_bel HO.out (by repeat (first | exact Bel.rf | (with_reducible refine Bel.drwN ?_ _) | (with_reducible refine Bel.drw ?_) | (with_reducible refine Bel.al ?_ _)))).alloc _) ⟨wr.heap.size, 0, none⟩ 1 1 [.int .i64 (iq : Int), .int .i64 (j : Int)] rfl rfl (World.news_of_block (cs := #[.int .i64 (iq : Int), .int .i64 (j : Int)]) (t := 64) (fr := (0, 0)) (heap_alloc_new _ _)) (by simp [Value.oneCell']) (by omega) (by decide) (by have := HB.out.size; simp; omega) ?_; intro v' w6 hown6 hgr6 hat6)
          have HO6 : Hid (w6.ownsRow w5.heap.size 64 2 v' (t + 1 + 1) (ps (trs L M b n m (t + 1)))) := by
            rw [trs_succ, ps_app, HX.out.2, HQ.out.2.1]
            exact hown6
          have HB6 : Hid (Bel w5 w6) := grown_bel (Bel.al (by repeat (first | exact HB.out | (with_reducible refine Bel.drwN ?_ _) | (with_reducible refine Bel.drw ?_))) _) hgr6 (fun q e => (HO.out.lt q e).1)
          clear hown6 hgr6 hat6
          go_wp2
          go_roundw
          case rel =>
            refine ⟨t + 1, _, _, rfl, rfl, fun k hk => ?_, ?_, ?_, HO6.out, HB6.out⟩
            · rcases Nat.lt_or_ge k t with h | h
              · exact HNE.out k h
              · obtain rfl : k = t := by omega
                rw [HX.out.1]
                intro e
                injection e with e1 e2
                have := HIJ.out
                omega
            · first | (rw [HX.out.2, HQ.out.2.1]; done) | (rw [HX.out.2, HQ.out.2.1]; rfl)
            · first | (rw [HX.out.2, HQ.out.2.1]; done) | (rw [HX.out.2, HQ.out.2.1]; rfl)
          case measure => (have := HQ.out; have := HIJ.out; simp [intOf]; omega)
      · rcases Int.lt_or_le e3 e1 with l2 | l2
        · have q1 := qR (by omega) (by omega)
          clear qB qL qR
          have l1d : decide (e1 ≤ e2) = true := decide_eq_true l1
          have x1 : ¬ e1 ≤ e3 := by omega
          have x1d : decide (e1 ≤ e3) = false := decide_eq_false x1
          have x2 : ¬ e2 ≤ e3 := by omega
          have x2d : decide (e2 ≤ e3) = false := decide_eq_false x2
          have hnx : bk L M b i j = (i, j - 1) := by rw [HBK.out, if_neg (by omega), if_neg (by omega)]
          obtain ⟨jq, hjq⟩ : ∃ k, j - 1 = k := ⟨_, rfl⟩
          have hjqi : (j : Int) - 1 = (jq : Int) := by omega
          have zjq : -9223372036854775808 ≤ (jq : Int) ∧ (jq : Int) ≤ 9223372036854775807 := by omega
          rw [hjq] at hnx
          have HQ := Lib.hid (And.intro hjq (And.intro hnx q1))
          clear hnx q1 hjq zjq
          rcases Nat.eq_zero_or_pos i with hi0 | hi0
          · subst hi0
            have hj0 : (j : Int) > 0 := by have := HQ.out; omega
            obtain rfl : i' = 1 := by have := HIJ.out; omega
            have y1n : (0 : Int) < (N : Int) := y1
            have y2n : (1 : Int) < (N : Int) := y2
            clear hii wi1 y1 y2 i40
            try rw [show ((0 : Nat) : Int) = 0 from rfl]
            go_wp2_with fail
            go_quiet (fail)
            go_wp2_with (at_builtin; refine list_appg _ rfl _ _ 30 64 (.agg #[.int .i64 0, .int .i64 0]) 2 16 Try.underlying30 info_pair rfl (by decide) rfl w5.heap.size u (t + 1) (ps (trs L M b n m t)) rfl ((own_bel HO.out (by repeat (first | exact Bel.rf | (with_reducible refine Bel.drwN ?_ _) | (with_reducible refine Bel.drw ?_) | (with_reducible refine Bel.al ?_ _)))).alloc _) ⟨wr.heap.size, 0, none⟩ 1 1 [.int .i64 0, .int .i64 (jq : Int)] rfl rfl (World.news_of_block (cs := #[.int .i64 0, .int .i64 (jq : Int)]) (t := 64) (fr := (0, 0)) (heap_alloc_new _ _)) (by simp [Value.oneCell']) (by omega) (by decide) (by have := HB.out.size; simp; omega) ?_; intro v' w6 hown6 hgr6 hat6)
            have HO6 : Hid (w6.ownsRow w5.heap.size 64 2 v' (t + 1 + 1) (ps (trs L M b n m (t + 1)))) := by
              rw [trs_succ, ps_app, HX.out.2, HQ.out.2.1]
              exact hown6
            have HB6 : Hid (Bel w5 w6) := grown_bel (Bel.al (by repeat (first | exact HB.out | (with_reducible refine Bel.drwN ?_ _) | (with_reducible refine Bel.drw ?_))) _) hgr6 (fun q e => (HO.out.lt q e).1)
            clear hown6 hgr6 hat6
            go_wp2
            go_roundw
            case rel =>
              refine ⟨t + 1, _, _, rfl, rfl, fun k hk => ?_, ?_, ?_, HO6.out, HB6.out⟩
              · rcases Nat.lt_or_ge k t with h | h
                · exact HNE.out k h
                · obtain rfl : k = t := by omega
                  rw [HX.out.1]
                  intro e
                  injection e with e1 e2
                  have := HIJ.out
                  omega
              · first | (rw [HX.out.2, HQ.out.2.1]; done) | (rw [HX.out.2, HQ.out.2.1]; rfl)
              · first | (rw [HX.out.2, HQ.out.2.1]; done) | (rw [HX.out.2, HQ.out.2.1]; rfl)
            case measure => (have := HQ.out; have := HIJ.out; simp [intOf]; omega)
          · have hor : (i : Int) > 0 := by omega
            clear hi0
            go_wp2_with fail
            go_quiet (fail)
            go_wp2_with (at_builtin; refine list_appg _ rfl _ _ 30 64 (.agg #[.int .i64 0, .int .i64 0]) 2 16 Try.underlying30 info_pair rfl (by decide) rfl w5.heap.size u (t + 1) (ps (trs L M b n m t)) rfl ((own_bel HO.out (by repeat (first | exact Bel.rf | (with_reducible refine Bel.drwN ?_ _) | (with_reducible refine Bel.drw ?_) | (with_reducible refine Bel.al ?_ _)))).alloc _) ⟨wr.heap.size, 0, none⟩ 1 1 [.int .i64 (i : Int), .int .i64 (jq : Int)] rfl rfl (World.news_of_block (cs := #[.int .i64 (i : Int), .int .i64 (jq : Int)]) (t := 64) (fr := (0, 0)) (heap_alloc_new _ _)) (by simp [Value.oneCell']) (by omega) (by decide) (by have := HB.out.size; simp; omega) ?_; intro v' w6 hown6 hgr6 hat6)
            have HO6 : Hid (w6.ownsRow w5.heap.size 64 2 v' (t + 1 + 1) (ps (trs L M b n m (t + 1)))) := by
              rw [trs_succ, ps_app, HX.out.2, HQ.out.2.1]
              exact hown6
            have HB6 : Hid (Bel w5 w6) := grown_bel (Bel.al (by repeat (first | exact HB.out | (with_reducible refine Bel.drwN ?_ _) | (with_reducible refine Bel.drw ?_))) _) hgr6 (fun q e => (HO.out.lt q e).1)
            clear hown6 hgr6 hat6
            go_wp2
            go_roundw
            case rel =>
              refine ⟨t + 1, _, _, rfl, rfl, fun k hk => ?_, ?_, ?_, HO6.out, HB6.out⟩
              · rcases Nat.lt_or_ge k t with h | h
                · exact HNE.out k h
                · obtain rfl : k = t := by omega
                  rw [HX.out.1]
                  intro e
                  injection e with e1 e2
                  have := HIJ.out
                  omega
              · first | (rw [HX.out.2, HQ.out.2.1]; done) | (rw [HX.out.2, HQ.out.2.1]; rfl)
              · first | (rw [HX.out.2, HQ.out.2.1]; done) | (rw [HX.out.2, HQ.out.2.1]; rfl)
            case measure => (have := HQ.out; have := HIJ.out; simp [intOf]; omega)
        · have q1 := qB ⟨l1, l2⟩
          have l1d : decide (e1 ≤ e2) = true := decide_eq_true l1
          have l2d : decide (e1 ≤ e3) = true := decide_eq_true l2
          clear qB qL qR
          have hnx : bk L M b i j = (i - 1, j - 1) := by rw [HBK.out, if_pos ⟨l1, l2⟩]
          obtain ⟨iq, hiq⟩ : ∃ k, i - 1 = k := ⟨_, rfl⟩
          have hiqi : (i : Int) - 1 = (iq : Int) := by omega
          have ziq : -9223372036854775808 ≤ (iq : Int) ∧ (iq : Int) ≤ 9223372036854775807 := by omega
          rw [hiq] at hnx
          obtain ⟨jq, hjq⟩ : ∃ k, j - 1 = k := ⟨_, rfl⟩
          have hjqi : (j : Int) - 1 = (jq : Int) := by omega
          have zjq : -9223372036854775808 ≤ (jq : Int) ∧ (jq : Int) ≤ 9223372036854775807 := by omega
          rw [hjq] at hnx
          have HQ := Lib.hid (And.intro (And.intro hiq hjq) (And.intro hnx q1))
          clear hnx q1 hiq hjq ziq zjq
          have hor : (i : Int) > 0 := by have := HQ.out; omega
          go_wp2_with fail
          go_quiet (fail)
          go_wp2_with (at_builtin; refine list_appg _ rfl _ _ 30 64 (.agg #[.int .i64 0, .int .i64 0]) 2 16 Try.underlying30 info_pair rfl (by decide) rfl w5.heap.size u (t + 1) (ps (trs L M b n m t)) rfl ((own_bel HO.out (by repeat (first | exact Bel.rf | (with_reducible refine Bel.drwN ?_ _) | (with_reducible refine Bel.drw ?_) | (with_reducible refine Bel.al ?_ _)))).alloc _) ⟨wr.heap.size, 0, none⟩ 1 1 [.int .i64 (iq : Int), .int .i64 (jq : Int)] rfl rfl (World.news_of_block (cs := #[.int .i64 (iq : Int), .int .i64 (jq : Int)]) (t := 64) (fr := (0, 0)) (heap_alloc_new _ _)) (by simp [Value.oneCell']) (by omega) (by decide) (by have := HB.out.size; simp; omega) ?_; intro v' w6 hown6 hgr6 hat6)
          have HO6 : Hid (w6.ownsRow w5.heap.size 64 2 v' (t + 1 + 1) (ps (trs L M b n m (t + 1)))) := by
            rw [trs_succ, ps_app, HX.out.2, HQ.out.2.1]
            exact hown6
          have HB6 : Hid (Bel w5 w6) := grown_bel (Bel.al (by repeat (first | exact HB.out | (with_reducible refine Bel.drwN ?_ _) | (with_reducible refine Bel.drw ?_))) _) hgr6 (fun q e => (HO.out.lt q e).1)
          clear hown6 hgr6 hat6
          go_wp2
          go_roundw
          case rel =>
            refine ⟨t + 1, _, _, rfl, rfl, fun k hk => ?_, ?_, ?_, HO6.out, HB6.out⟩
            · rcases Nat.lt_or_ge k t with h | h
              · exact HNE.out k h
              · obtain rfl : k = t := by omega
                rw [HX.out.1]
                intro e
                injection e with e1 e2
                have := HIJ.out
                omega
            · first | (rw [HX.out.2, HQ.out.2.1]; done) | (rw [HX.out.2, HQ.out.2.1]; rfl)
            · first | (rw [HX.out.2, HQ.out.2.1]; done) | (rw [HX.out.2, HQ.out.2.1]; rfl)
          case measure => (have := HQ.out; have := HIJ.out; simp [intOf]; omega)
end Go.Proofs.Ytkjffielnmdpcaa.Wa
