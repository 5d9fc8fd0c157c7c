/- The contract of the reference's Gap of layer 13. -/
import Derived.Test.YtgdhgeongdenpaaNor
import Derived.Test.YtgdhgeongdenpaaRef01
import Derived.Test.YtgdhgeongdenpaaRef12c
namespace Go.Proofs.Ytgdhgeongdenpaa.Ch
open Go.ChangeShapes Go.WideShapes Go.RowKit Wo Sr Wi Nr Ra Eu
set_option linter.unusedVariables false
set_option maxHeartbeats 1000000 in
theorem rmk_ok (n d : Int) (h0 : 0 ≤ n) (h1 : 1 ≤ d) (h2 : n ≤ 2305843009213693952) (h3 : d ≤ 1152921504606846976) (hv : RV (n / gd n d) (d / gd n d)) (w : World) :
    Calls Try.prog 117 #[.int .i64 n, .int .i64 d] w fun e w' => e = .returned (.tuple #[.agg #[.int .i64 (n / gd n d), .int .i64 (d / gd n d)], .int .i64 0]) ∧ Bel w w' := by
  have b1 : decide (n < 0) = false := by simpa using h0
  have b2 : decide (d < 1) = false := by simpa using h1
  have g1 := gd_pos (a := n) (b := d) (by omega)
  have g2 := gd_le_right (a := n) (b := d) (by omega)
  have g3 : gd n d ≠ 0 := by omega
  have e1 : 0 ≤ n / gd n d := Int.ediv_nonneg h0 (by omega)
  have e2 : 0 ≤ d / gd n d := Int.ediv_nonneg (by omega) (by omega)
  have e3 : n / gd n d ≤ n := Int.ediv_le_self _ h0
  have e4 : d / gd n d ≤ d := Int.ediv_le_self _ (by omega)
  have HV := Lib.hid hv
  clear hv
  go_enter Try.func117, Try.ntmps117
  go_wp2_with (first | (go_at_call 71; refine (common_any _ _ h0 (by omega) _).mono ?_; rintro e w2 ⟨rfl, m, rfl⟩))
  go_region
  go_wp2_with (first | (go_at_call 30; refine (rvalid_ok _ _ HV.out _).mono ?_; rintro e w3 ⟨rfl, hb⟩; obtain ⟨hc, hf⟩ := hb.cells; have hsz := hb.size; have B0 : Bk w3 w.heap.size 69 #[.int .i64 0, .int .i64 0] := (((Bk.nw _ _ _).drwN _).al _).bel hb; have hz0 := B0.lt; have k0 : w3.cell? ⟨w.heap.size, 0, none⟩ = some (.int .i64 0) := B0.cell 0; have k1 : w3.cell? ⟨w.heap.size, 1, none⟩ = some (.int .i64 0) := B0.cell 1))
  refine bodyPost_ret (v := .tuple #[.agg #[.int .i64 (n / gd n d), .int .i64 (d / gd n d)], .int .i64 0]) (by simp [results, Try.results117, go_sem, k0, k1]) rfl ⟨rfl, (by repeat (first | exact Bel.rf | (with_reducible refine Bel.st ?_ (by simp) _) | (with_reducible refine Bel.drwN ?_ _) | (with_reducible refine Bel.drw ?_) | (with_reducible refine Bel.al ?_ _) | refine Bel.tr ?_ (by assumption)))⟩
set_option maxHeartbeats 8000000 in
set_option maxRecDepth 100000 in
theorem rprod_ok (A A' : Option Addr) (c c' n : Nat) (L M : List Int) (n2 : n ≤ 32) (hs : Sam L) (ht : Sam M) (w : World) (h1 : Zi w A n L) (h2 : Zi w A' n M) :
    Calls Try.prog 80 #[.slice A n c, .slice A' n c'] w fun e w' => e = .returned (.int .i64 (pr L M)) ∧ Bel w w' := by
  have H1 := Lib.hid h1
  have H2 := Lib.hid h2
  have HS := Lib.hid hs
  have HT := Lib.hid ht
  have hlen : L.length = M.length := by rw [h1.1, h2.1]
  have hl := h1.1
  have HP : Hid (Bd 1000000 (pw L M)) := pw_bd (A := 1000) (B := 1000) (by decide) (by decide) hs ht
  have i2 : (n : Int) ≤ 32 := by omega
  have HE : Hid (pr L M = (n : Int) * su ix (pw L M) - su ix L * su ix M) := by show _ = _; unfold pr; rw [dot_pw, hl]
  have HPL : Hid ((pw L M).length = n) := by show _ = _; rw [pw_len hlen, hl]
  clear h1 h2 hs ht
  go_enter Try.func80, Try.ntmps80
  go_wp2
  go_loopw [5, 6, 7, 11] (fun s5 s6 s7 s11 wr => ∃ (t : Nat) (V : World) (p s q : Int), V = wr ∧ t ≤ n ∧ s11 = .int .i64 (t : Int) ∧ s5 = .int .i64 p ∧ s6 = .int .i64 s ∧ s7 = .int .i64 q ∧ p = su ix ((pw L M).take t) ∧ s = su ix (L.take t) ∧ q = su ix (M.take t) ∧ Bel w wr) (fun _ _ _ s11 _ => n - (intOf s11).toNat)
  case atStart => exact ⟨0, _, 0, 0, 0, rfl, by omega, rfl, rfl, rfl, rfl, by simp [su], by simp [su], by simp [su], Bel.rf⟩
  case round =>
    obtain ⟨t, wr, p, s, q, hwr, ht, rfl, rfl, rfl, rfl, hp, hsx, hq, hb⟩ := hrel
    subst hwr
    have HB := Lib.hid hb
    have HPV := Lib.hid hp
    have HSV := Lib.hid hsx
    have HQV := Lib.hid hq
    have b1 := bd_in (k := 32) (HP.out.take t) (by decide) (by have := List.length_take_le t (pw L M); have := HPL.out; omega)
    have b2 := bd_in (k := 32) (Bd.take (B := 1000) HS.out t) (by decide) (by have := List.length_take_le t L; omega)
    have b3 := bd_in (k := 32) (Bd.take (B := 1000) HT.out t) (by decide) (by have := List.length_take_le t M; omega)
    rw [← hp] at b1
    rw [← hsx] at b2
    rw [← hq] at b3
    obtain ⟨b10, b11⟩ : -32000000 ≤ p ∧ p ≤ 32000000 := by omega
    obtain ⟨b20, b21⟩ : -32000 ≤ s ∧ s ≤ 32000 := by omega
    obtain ⟨b30, b31⟩ : -32000 ≤ q ∧ q ≤ 32000 := by omega
    clear b1 b2 b3
    rcases Nat.lt_or_ge t n with hlt | hge
    · obtain ⟨ad, rfl, _, hac⟩ := (H1.out.bel hb).2 (by omega)
      obtain ⟨ad', rfl, _, hac'⟩ := (H2.out.bel hb).2 (by omega)
      have c1 := hac t hlt
      have c2 := hac' t hlt
      have hn1 := su_next ix (pw L M) t (by have := HPL.out; omega)
      have hn2 := su_next ix L t (by omega)
      have hn3 := su_next ix M t (by omega)
      rw [pw_at hlen t (by omega)] at hn1
      have px := HS.out.at t
      have py := HT.out.at t
      obtain ⟨x, hx⟩ : ∃ x, L.getD t 0 = x := ⟨_, rfl⟩
      obtain ⟨y, hy⟩ : ∃ y, M.getD t 0 = y := ⟨_, rfl⟩
      rw [hx] at c1 px hn1 hn2
      rw [hy] at c2 py hn1 hn3
      rw [← hp] at hn1
      rw [← hsx] at hn2
      rw [← hq] at hn3
      obtain ⟨x0, x1⟩ := px
      obtain ⟨y0, y1⟩ := py
      have mb := mul_bd (A := 1000) (B := 1000) (by decide) (by decide) x0 x1 y0 y1
      obtain ⟨xy, hxy⟩ : ∃ z, x * y = z := ⟨_, rfl⟩
      have HN : Hid (p + x * y = su ix ((pw L M).take (t + 1)) ∧ s + x = su ix (L.take (t + 1)) ∧ q + y = su ix (M.take (t + 1))) := ⟨hn1.symm, hn2.symm, hn3.symm⟩
      rw [hxy] at mb
      obtain ⟨mb0, mb1⟩ : -1000000 ≤ xy ∧ xy ≤ 1000000 := by omega
      have m1 : wrap64 (x * y) = xy := by rw [hxy]; exact IntWalk.wrap64_in _ (by omega)
      have m2 : IntKind.i64.wrap (x * y) = xy := by rw [hxy]; exact IntWalk.i64_in _ (by omega)
      have m3 : IntKind.i64.wrap (p + xy) = p + xy := IntWalk.i64_in _ (by omega)
      have ti : (t : Int) < (n : Int) := by omega
      have HXY := Lib.hid (And.intro hx (And.intro hy hxy))
      clear hb hp hsx hq hac hac' hx hy hn1 hn2 hn3 mb hxy
      go_wp2
      go_quiet (fail)
      go_wp2
      go_roundw
      case rel => exact ⟨t + 1, _, _, _, _, rfl, by omega, by go_num, rfl, rfl, rfl, by rw [← HN.out.1, HXY.out.2.2], HN.out.2.1, HN.out.2.2, by first | exact HB.out.drwN _ | exact HB.out.drw | exact HB.out⟩
      case measure => simp [intOf]; omega
    · obtain rfl : t = n := by omega
      rw [List.take_of_length_le (by have := HPL.out; omega)] at hp
      rw [List.take_of_length_le (by omega)] at hsx
      rw [List.take_of_length_le (by omega)] at hq
      have HN := Lib.hid (And.intro hp (And.intro hsx hq))
      have e1 := mul_bd (A := 32) (B := 32000000) (x := (t : Int)) (y := p) (by decide) (by decide) (by omega) (by omega) (by omega) (by omega)
      have e2 := mul_bd (A := 32000) (B := 32000) (by decide) (by decide) b20 b21 b30 b31
      have m1 : wrap64 ((t : Int) * p) = (t : Int) * p := IntWalk.wrap64_in _ (by omega)
      have m2 : wrap64 (s * q) = s * q := IntWalk.wrap64_in _ (by omega)
      have m3 : wrap64 ((t : Int) * p - s * q) = (t : Int) * p - s * q := IntWalk.wrap64_in _ (by omega)
      clear hb hp hsx hq e1 e2
      go_wp2
      go_ret
      exact ⟨ret_int (m3.trans (by rw [HE.out, ← HN.out.1, ← HN.out.2.1, ← HN.out.2.2])), HB.out⟩
set_option maxHeartbeats 4000000 in
theorem rProd_ok (A A' : Option Addr) (c c' n : Nat) (L M : List Int) (n1 : 2 ≤ n) (n2 : n ≤ 32) (hs : Sam L) (ht : Sam M) (w : World) (h1 : Zi w A n L) (h2 : Zi w A' n M) :
    Calls Try.prog 78 #[.slice A n c, .slice A' n c'] w fun e w' => e = .returned (.tuple #[.int .i64 (pr L M), .int .i64 0]) ∧ Bel w w' := by
  have HW : Hid (∀ W, Bel w W → _) := fun W hW => R12.two_ok A A' c c' n L M n1 n2 hs ht W (h1.bel hW) (h2.bel hW)
  have HQ : Hid (∀ W, Bel w W → _) := fun W hW => rprod_ok A A' c c' n L M n2 hs ht W (h1.bel hW) (h2.bel hW)
  clear h1 h2 hs ht
  go_enter Try.func78, Try.ntmps78
  go_wp2_with fail
  go_at_call 116
  refine (HW.out _ Bel.rf).mono ?_
  rintro e w1 ⟨rfl, hb1⟩
  have HB1 := Lib.hid hb1
  clear hb1
  go_wp2_with (go_at_call 80; refine (HQ.out _ HB1.out).mono ?_; rintro e w2 ⟨rfl, hb2⟩)
  go_ret2
  exact ⟨rfl, HB1.out.tr hb2⟩
set_option maxHeartbeats 4000000 in
theorem between_ok (c v u : Int) (v0 : 0 ≤ v) (u0 : 0 ≤ u) (v1 : v ≤ 1024000000) (u1 : u ≤ 1024000000) (c0 : -1024000000 ≤ c) (c1 : c ≤ 1024000000) (h : c * c ≤ v * u) (w : World) :
    Calls Try.prog 79 #[.int .i64 c, .int .i64 v, .int .i64 u] w fun e w' => e = .returned (.agg #[.int .i64 (rN v u c), .int .i64 (rD v u c)]) ∧ Bel w w' := by
  have g := gap_in v0 u0 v1 u1 h
  have r := red_in v0 u0 v1 u1 h
  have vw := vw_le v0 u0 v1 u1
  have sge := sg_in h
  have HMK : Hid (∀ W, Calls Try.prog 117 #[.int .i64 (gN v u c), .int .i64 (gD v u)] W fun e w' => e = .returned (.tuple #[.agg #[.int .i64 (rN v u c), .int .i64 (rD v u c)], .int .i64 0]) ∧ Bel W w') := fun W =>
    rmk_ok (gN v u c) (gD v u) g.1 g.2.2.1 (by omega) (by omega) r.1 W
  have hnn : 0 ≤ c * c := sq_nn c
  rcases Classical.em (v = 0) with hv | hv
  · rcases Classical.em (u = 0) with hu | hu
    · subst hv
      subst hu
      rw [show rN 0 0 c = 0 by unfold rN gN gD; simp, show rD 0 0 c = 1 by unfold rD gN gD; simp [gd_one]]
      clear HMK g r vw sge hnn h
      go_enter Try.func79, Try.ntmps79
      go_wp2
      refine bodyPost_ret (v := .agg #[.int .i64 0, .int .i64 1]) (by simp [results, Try.results79, go_sem]) rfl ⟨rfl, (Bel.rf.al _).al _⟩
    · subst hv
      rw [show rN 0 u c = 1 by unfold rN gN gD; simp [hu, gd_one], show rD 0 u c = 1 by unfold rD gN gD; simp [hu, gd_one]]
      clear HMK g r vw sge hnn h
      have k1 : (u = 0) = False := eq_false hu
      go_enter Try.func79, Try.ntmps79
      go_wp2
      refine bodyPost_ret (v := .agg #[.int .i64 1, .int .i64 1]) (by simp [results, Try.results79, go_sem]) rfl ⟨rfl, (Bel.rf.al _).al _⟩
  · rcases Classical.em (u = 0) with hu | hu
    · subst hu
      rw [show rN v 0 c = 1 by unfold rN gN gD; simp [hv, gd_one], show rD v 0 c = 1 by unfold rD gN gD; simp [hv, gd_one]]
      clear HMK g r vw sge hnn h
      have k1 : (v = 0) = False := eq_false hv
      go_enter Try.func79, Try.ntmps79
      go_wp2
      refine bodyPost_ret (v := .agg #[.int .i64 1, .int .i64 1]) (by simp [results, Try.results79, go_sem]) rfl ⟨rfl, (Bel.rf.al _).al _⟩
    · have hD : gD v u = v * u := by unfold gD; rw [if_neg hv, if_neg hu]
      rcases Int.lt_or_le c 0 with hc | hc
      · have hN : gN v u c = v * u + c * c := by unfold gN sg; rw [if_neg hv, if_neg hu]; split <;> omega
        rw [hN, hD] at HMK
        generalize rN v u c = X at *
        generalize rD v u c = Y at *
        have w1 : IntKind.i64.wrap (v * u) = v * u := IntWalk.i64_in _ (by omega)
        have w2 : IntKind.i64.wrap (c * c) = c * c := IntWalk.i64_in _ (by omega)
        have w3 : IntKind.i64.wrap (v * u + c * c) = v * u + c * c := IntWalk.i64_in _ (by omega)
        have k1 : (v == 0) = false := by simpa using hv
        have k2 : (u == 0) = false := by simpa using hu
        have k4 : (v != 0) = true := by simpa using hv
        have k5 : (u != 0) = true := by simpa using hu
        have k3 : ¬ 0 ≤ c := by omega
        have w4 : wrap64 (v * u) = v * u := IntWalk.wrap64_in _ (by omega)
        have w5 : wrap64 (c * c) = c * c := IntWalk.wrap64_in _ (by omega)
        clear g r vw sge hnn h hN hD
        go_enter Try.func79, Try.ntmps79
        go_wp2_with fail
        go_at_call 117
        refine (HMK.out _).mono ?_
        rintro e w4 ⟨rfl, hb4⟩
        have K6 : Bk w4 w.heap.size 69 #[.int .i64 0, .int .i64 0] := ((Bk.nw _ _ _).al _).bel hb4
        have K7 : Bk w4 (w.heap.size + 1) 69 #[.int .i64 1, .int .i64 1] := (Bk.nq _ _ _ (by simp)).bel hb4
        have l0 : w4.cell? ⟨w.heap.size, 0, none⟩ = some (.int .i64 0) := K6.cell 0
        have l1 : w4.cell? ⟨w.heap.size, 1, none⟩ = some (.int .i64 0) := K6.cell 1
        have j0 := K6.fr 0
        have j1 := K6.fr 1
        have n0 : w4.cell? ⟨w.heap.size + 1, 0, none⟩ = some (.int .i64 1) := K7.cell 0
        have n1 : w4.cell? ⟨w.heap.size + 1, 1, none⟩ = some (.int .i64 1) := K7.cell 1
        have p0 := K7.fr 0
        have p1 := K7.fr 1
        have HF : Hid (Bel w w4) := ((Bel.rf.al _).al _).tr hb4
        clear hb4 K6 K7
        go_wp2
        refine bodyPost_ret (v := .agg #[.int .i64 X, .int .i64 Y]) (by simp [results, Try.results79, go_sem, l0, l1]) rfl ⟨rfl, ?_⟩
        exact (((HF.out.st (Nat.le_succ _) _).st (Nat.le_succ _) _).st (Nat.le_refl _) _).st (Nat.le_refl _) _
      · have hN : gN v u c = v * u - c * c := by unfold gN sg; rw [if_neg hv, if_neg hu]; split <;> omega
        rw [hN, hD] at HMK
        generalize rN v u c = X at *
        generalize rD v u c = Y at *
        have w1 : IntKind.i64.wrap (v * u) = v * u := IntWalk.i64_in _ (by omega)
        have w2 : IntKind.i64.wrap (c * c) = c * c := IntWalk.i64_in _ (by omega)
        have w3 : IntKind.i64.wrap (v * u - c * c) = v * u - c * c := IntWalk.i64_in _ (by omega)
        have w4 : wrap64 (v * u) = v * u := IntWalk.wrap64_in _ (by omega)
        have w5 : wrap64 (c * c) = c * c := IntWalk.wrap64_in _ (by omega)
        have k1 : (v == 0) = false := by simpa using hv
        have k2 : (u == 0) = false := by simpa using hu
        have k4 : (v != 0) = true := by simpa using hv
        have k5 : (u != 0) = true := by simpa using hu
        clear g r vw sge hnn h hN hD
        go_enter Try.func79, Try.ntmps79
        go_wp2_with fail
        go_at_call 117
        refine (HMK.out _).mono ?_
        rintro e w4 ⟨rfl, hb4⟩
        have K6 : Bk w4 w.heap.size 69 #[.int .i64 0, .int .i64 0] := ((Bk.nw _ _ _).al _).bel hb4
        have K7 : Bk w4 (w.heap.size + 1) 69 #[.int .i64 1, .int .i64 1] := (Bk.nq _ _ _ (by simp)).bel hb4
        have l0 : w4.cell? ⟨w.heap.size, 0, none⟩ = some (.int .i64 0) := K6.cell 0
        have l1 : w4.cell? ⟨w.heap.size, 1, none⟩ = some (.int .i64 0) := K6.cell 1
        have j0 := K6.fr 0
        have j1 := K6.fr 1
        have n0 : w4.cell? ⟨w.heap.size + 1, 0, none⟩ = some (.int .i64 1) := K7.cell 0
        have n1 : w4.cell? ⟨w.heap.size + 1, 1, none⟩ = some (.int .i64 1) := K7.cell 1
        have p0 := K7.fr 0
        have p1 := K7.fr 1
        have HF : Hid (Bel w w4) := ((Bel.rf.al _).al _).tr hb4
        clear hb4 K6 K7
        go_wp2
        refine bodyPost_ret (v := .agg #[.int .i64 X, .int .i64 Y]) (by simp [results, Try.results79, go_sem, l0, l1]) rfl ⟨rfl, ?_⟩
        exact (((HF.out.st (Nat.le_succ _) _).st (Nat.le_succ _) _).st (Nat.le_refl _) _).st (Nat.le_refl _) _
set_option maxHeartbeats 4000000 in
theorem rGap_ok (A A' : Option Addr) (c c' n : Nat) (L M : List Int) (n1 : 2 ≤ n) (n2 : n ≤ 32) (hs : Sam L) (ht : Sam M) (w : World) (h1 : Zi w A n L) (h2 : Zi w A' n M) :
    Calls Try.prog 36 #[.slice A n c, .slice A' n c'] w fun e w' => e = .returned (.tuple #[.agg #[.int .i64 (rN (vr L) (vr M) (pr L M)), .int .i64 (rD (vr L) (vr M) (pr L M))], .int .i64 0]) ∧ Bel w w' := by
  have hl : L.length = M.length := by rw [h1.1, h2.1]
  have hl2 := h1.1
  have v := vr_le hs (by omega)
  have u := vr_le ht (by omega)
  have p := pr_le hs ht (by omega) hl
  have cs := pr_cs hl
  have HP : Hid (∀ W, Bel w W → _) := fun W hW => rProd_ok A A' c c' n L M n1 n2 hs ht W (h1.bel hW) (h2.bel hW)
  have HV : Hid (∀ W, Bel w W → Calls Try.prog 80 #[.slice A n c, .slice A n c] W fun e w' => e = .returned (.int .i64 (vr L)) ∧ Bel W w') := fun W hW => by
    rw [← pr_self]; exact rprod_ok A A c c n L L n2 hs hs W (h1.bel hW) (h1.bel hW)
  have HU : Hid (∀ W, Bel w W → Calls Try.prog 80 #[.slice A' n c', .slice A' n c'] W fun e w' => e = .returned (.int .i64 (vr M)) ∧ Bel W w') := fun W hW => by
    rw [← pr_self]; exact rprod_ok A' A' c' c' n M M n2 ht ht W (h2.bel hW) (h2.bel hW)
  have HT : Hid (∀ W, _) := fun W => between_ok (pr L M) (vr L) (vr M) v.1 u.1 v.2 u.2 (by omega) (by omega) cs W
  generalize rN (vr L) (vr M) (pr L M) = X at *
  generalize rD (vr L) (vr M) (pr L M) = Y at *
  generalize vr L = V at *
  generalize vr M = U at *
  generalize pr L M = C at *
  clear h1 h2 hs ht v u p cs hl hl2
  go_enter Try.func36, Try.ntmps36
  go_wp2_with fail
  go_at_call 78
  refine (HP.out _ (Bel.rf.al _)).mono ?_
  rintro e w1 ⟨rfl, hb1⟩
  have HB1 : Hid (Bel w w1) := (Bel.rf.al _).tr hb1
  have HK1 : Hid (Bk w1 w.heap.size 69 #[.int .i64 0, .int .i64 0]) := (Bk.nw _ _ _).bel hb1
  clear hb1
  go_wp2_with fail
  go_at_call 80
  refine (HV.out _ HB1.out).mono ?_
  rintro e w2 ⟨rfl, hb2⟩
  have HB2 := Lib.hid (HB1.out.tr hb2)
  have HK2 := Lib.hid (HK1.out.bel hb2)
  clear hb2
  go_wp2_with fail
  go_at_call 80
  refine (HU.out _ HB2.out).mono ?_
  rintro e w3 ⟨rfl, hb3⟩
  have HB3 := Lib.hid (HB2.out.tr hb3)
  have HK3 := Lib.hid (HK2.out.bel hb3)
  clear hb3
  go_wp2_with fail
  go_at_call 79
  refine (HT.out _).mono ?_
  rintro e w4 ⟨rfl, hb4⟩
  have K4 := HK3.out.bel hb4
  have l0 : w4.cell? ⟨w.heap.size, 0, none⟩ = some (.int .i64 0) := K4.cell 0
  have l1 : w4.cell? ⟨w.heap.size, 1, none⟩ = some (.int .i64 0) := K4.cell 1
  have j0 := K4.fr 0
  have j1 := K4.fr 1
  have HF := Lib.hid (HB3.out.tr hb4)
  clear hb4 K4
  go_wp2
  refine bodyPost_ret (v := .tuple #[.agg #[.int .i64 X, .int .i64 Y], .int .i64 0]) (by simp [results, Try.results36, go_sem, l0, l1]) rfl ⟨rfl, ?_⟩
  exact (HF.out.st (Nat.le_refl _) _).st (Nat.le_refl _) _
end Go.Proofs.Ytgdhgeongdenpaa.Ch
