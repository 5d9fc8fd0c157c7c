/- Merged: Ref12c Rg13 SkL WdC WdM Wd1 Wd2 Wd3 Wd4 Wd5 RegB WdK AppW Wd6 Wd7. -/
import Derived.Test.YtmgdoglnckkobaaGs1
import Derived.Test.YtmgdoglnckkobaaGs2
import Derived.BigQuiet
import Derived.Deep.RegionHeld3
import Derived.Deep.RegionLaw
import Derived.Maps.AppendAt
namespace Go.Proofs.Ytmgdoglnckkobaa.R12
open Go.ChangeShapes Go.WideShapes Go.RowKit Wo Sr Wi
set_option linter.unusedVariables false
theorem rsample_ok (n : Int) (h0 : -1000 ≤ n) (h1 : n ≤ 1000) (w : World) : Calls Try.prog 115 #[.int .i64 n] w fun e w' => e = .returned (.bool true) ∧ w = w' := by
  go_enter Try.func115, Try.ntmps115
  go_wp2
  go_ret
  exact ⟨rfl, rfl⟩
set_option maxHeartbeats 4000000 in
theorem rsamples_ok (A : Option Addr) (c n : Nat) (L : List Int) (hn : n ≤ 1000000) (hs : Sam L) (w : World) (h : Zi w A n L) :
    Calls Try.prog 92 #[.slice A n c] w fun e w' => e = .returned (.int .i64 0) ∧ Bel w w' := by
  have H1 := Lib.hid h
  have HS := Lib.hid hs
  have ni : (n : Int) ≤ 1000000 := by omega
  clear h hs
  go_enter Try.func92, Try.ntmps92
  go_wp2
  go_loopw [6] (fun s6 wr => ∃ (k : Nat) (V : World), V = wr ∧ k ≤ n ∧ s6 = .int .i64 (k : Int) ∧ Bel w wr) (fun s6 _ => n - (intOf s6).toNat)
  case atStart => exact ⟨0, _, rfl, by omega, rfl, Bel.rf⟩
  case round =>
    obtain ⟨k, wr, hwr, hk, rfl, hb⟩ := hrel
    subst hwr
    have HB := Lib.hid hb
    rcases Nat.lt_or_ge k n with hlt | hge
    · obtain ⟨ad, rfl, hab, hac⟩ := (H1.out.bel hb).2 (by omega)
      have c1 := hac k hlt
      have hx := HS.out.at k
      obtain ⟨x, hxe⟩ : ∃ x, L.getD k 0 = x := ⟨_, rfl⟩
      rw [hxe] at c1 hx
      obtain ⟨x0, x1⟩ := hx
      have ki : (k : Int) < (n : Int) := by omega
      clear hb hac hab hxe
      go_wp2_with (go_at_call 115; refine (rsample_ok x x0 x1 _).mono ?_; rintro e w' ⟨rfl, rfl⟩)
      go_roundw
      case rel => exact ⟨k + 1, _, rfl, by omega, by go_num, by first | exact HB.out | exact HB.out.drwN _ | exact HB.out.drw⟩
      case measure => simp [intOf]; omega
    · obtain rfl : k = n := by omega
      clear hb
      go_wp2
      go_ret
      exact ⟨rfl, HB.out⟩
set_option maxHeartbeats 4000000 in
theorem two_ok (A A' : Option Addr) (c c' n : Nat) (L M : List Int) (n1 : 2 ≤ n) (n2 : n ≤ 32) (hs : Sam L) (ht : Sam M) (w : World) (h1 : Zi w A n L) (h2 : Zi w A' n M) :
    Calls Try.prog 52 #[.slice A n c, .slice A' n c', .int .i64 0] w fun e w' => e = .returned (.int .i64 0) ∧ Bel w w' := by
  have i1 : 2 ≤ (n : Int) := by omega
  have i2 : (n : Int) ≤ 32 := by omega
  have S1 : Hid (∀ W, Bel w W → _) := fun W hW => rsamples_ok A c n L (by omega) hs W (h1.bel hW)
  have S2 : Hid (∀ W, Bel w W → _) := fun W hW => rsamples_ok A' c' n M (by omega) ht W (h2.bel hW)
  clear h1 h2 hs ht
  go_enter Try.func52, Try.ntmps52
  go_wp2_with fail
  go_at_call 92
  refine (S1.out _ Bel.rf).mono ?_
  rintro e w1 ⟨rfl, hb1⟩
  go_wp2_with fail
  go_at_call 92
  refine (S2.out _ hb1).mono ?_
  rintro e w2 ⟨rfl, hb2⟩
  go_wp2
  go_ret
  exact ⟨rfl, hb1.tr hb2⟩
end Go.Proofs.Ytmgdoglnckkobaa.R12
namespace Go.Proofs.Ytmgdoglnckkobaa.Ch
open Go.ChangeShapes Go.WideShapes Go.RowKit Wo Sr Wi Nr Ra Eu
set_option linter.unusedVariables false
set_option maxHeartbeats 1000000 in
theorem rmk_ok (n d : Int) (h0 : 0 ≤ n) (h1 : 1 ≤ d) (h2 : n ≤ 2305843009213693952) (h3 : d ≤ 1152921504606846976) (hv : RV (n / gd n d) (d / gd n d)) (w : World) :
    Calls Try.prog 55 #[.int .i64 n, .int .i64 d] w fun e w' => e = .returned (.tuple #[.agg #[.int .i64 (n / gd n d), .int .i64 (d / gd n d)], .int .i64 0]) ∧ Bel w w' := by
  have b1 : decide (n < 0) = false := by simpa using h0
  have b2 : decide (d < 1) = false := by simpa using h1
  have g1 := gd_pos (a := n) (b := d) (by omega)
  have g2 := gd_le_right (a := n) (b := d) (by omega)
  have g3 : gd n d ≠ 0 := by omega
  have e1 : 0 ≤ n / gd n d := Int.ediv_nonneg h0 (by omega)
  have e2 : 0 ≤ d / gd n d := Int.ediv_nonneg (by omega) (by omega)
  have e3 : n / gd n d ≤ n := Int.ediv_le_self _ h0
  have e4 : d / gd n d ≤ d := Int.ediv_le_self _ (by omega)
  have HV := Lib.hid hv
  clear hv
  go_enter Try.func55, Try.ntmps55
  go_wp2_with (first | (go_at_call 87; refine (common_any _ _ h0 (by omega) _).mono ?_; rintro e w2 ⟨rfl, m, rfl⟩))
  go_region
  go_wp2_with (first | (go_at_call 42; refine (rvalid_ok _ _ HV.out _).mono ?_; rintro e w3 ⟨rfl, hb⟩; obtain ⟨hc, hf⟩ := hb.cells; have hsz := hb.size; have B0 : Bk w3 w.heap.size 37 #[.int .i64 0, .int .i64 0] := (((Bk.nw _ _ _).drwN _).al _).bel hb; have hz0 := B0.lt; have k0 : w3.cell? ⟨w.heap.size, 0, none⟩ = some (.int .i64 0) := B0.cell 0; have k1 : w3.cell? ⟨w.heap.size, 1, none⟩ = some (.int .i64 0) := B0.cell 1))
  refine bodyPost_ret (v := .tuple #[.agg #[.int .i64 (n / gd n d), .int .i64 (d / gd n d)], .int .i64 0]) (by simp [results, Try.results55, go_sem, k0, k1]) rfl ⟨rfl, (by repeat (first | exact Bel.rf | (with_reducible refine Bel.st ?_ (by simp) _) | (with_reducible refine Bel.drwN ?_ _) | (with_reducible refine Bel.drw ?_) | (with_reducible refine Bel.al ?_ _) | refine Bel.tr ?_ (by assumption)))⟩
set_option maxHeartbeats 8000000 in
set_option maxRecDepth 100000 in
theorem rprod_ok (A A' : Option Addr) (c c' n : Nat) (L M : List Int) (n2 : n ≤ 32) (hs : Sam L) (ht : Sam M) (w : World) (h1 : Zi w A n L) (h2 : Zi w A' n M) :
    Calls Try.prog 86 #[.slice A n c, .slice A' n c'] w fun e w' => e = .returned (.int .i64 (pr L M)) ∧ Bel w w' := by
  have H1 := Lib.hid h1
  have H2 := Lib.hid h2
  have HS := Lib.hid hs
  have HT := Lib.hid ht
  have hlen : L.length = M.length := by rw [h1.1, h2.1]
  have hl := h1.1
  have HP : Hid (Bd 1000000 (pw L M)) := pw_bd (A := 1000) (B := 1000) (by decide) (by decide) hs ht
  have i2 : (n : Int) ≤ 32 := by omega
  have HE : Hid (pr L M = (n : Int) * su ix (pw L M) - su ix L * su ix M) := by show _ = _; unfold pr; rw [dot_pw, hl]
  have HPL : Hid ((pw L M).length = n) := by show _ = _; rw [pw_len hlen, hl]
  clear h1 h2 hs ht
  go_enter Try.func86, Try.ntmps86
  go_wp2
  go_loopw [5, 6, 7, 11] (fun s5 s6 s7 s11 wr => ∃ (t : Nat) (V : World) (p s q : Int), V = wr ∧ t ≤ n ∧ s11 = .int .i64 (t : Int) ∧ s5 = .int .i64 p ∧ s6 = .int .i64 s ∧ s7 = .int .i64 q ∧ p = su ix ((pw L M).take t) ∧ s = su ix (L.take t) ∧ q = su ix (M.take t) ∧ Bel w wr) (fun _ _ _ s11 _ => n - (intOf s11).toNat)
  case atStart => exact ⟨0, _, 0, 0, 0, rfl, by omega, rfl, rfl, rfl, rfl, by simp [su], by simp [su], by simp [su], Bel.rf⟩
  case round =>
    obtain ⟨t, wr, p, s, q, hwr, ht, rfl, rfl, rfl, rfl, hp, hsx, hq, hb⟩ := hrel
    subst hwr
    have HB := Lib.hid hb
    have HPV := Lib.hid hp
    have HSV := Lib.hid hsx
    have HQV := Lib.hid hq
    have b1 := bd_in (k := 32) (HP.out.take t) (by decide) (by have := List.length_take_le t (pw L M); have := HPL.out; omega)
    have b2 := bd_in (k := 32) (Bd.take (B := 1000) HS.out t) (by decide) (by have := List.length_take_le t L; omega)
    have b3 := bd_in (k := 32) (Bd.take (B := 1000) HT.out t) (by decide) (by have := List.length_take_le t M; omega)
    rw [← hp] at b1
    rw [← hsx] at b2
    rw [← hq] at b3
    obtain ⟨b10, b11⟩ : -32000000 ≤ p ∧ p ≤ 32000000 := by omega
    obtain ⟨b20, b21⟩ : -32000 ≤ s ∧ s ≤ 32000 := by omega
    obtain ⟨b30, b31⟩ : -32000 ≤ q ∧ q ≤ 32000 := by omega
    clear b1 b2 b3
    rcases Nat.lt_or_ge t n with hlt | hge
    · obtain ⟨ad, rfl, _, hac⟩ := (H1.out.bel hb).2 (by omega)
      obtain ⟨ad', rfl, _, hac'⟩ := (H2.out.bel hb).2 (by omega)
      have c1 := hac t hlt
      have c2 := hac' t hlt
      have hn1 := su_next ix (pw L M) t (by have := HPL.out; omega)
      have hn2 := su_next ix L t (by omega)
      have hn3 := su_next ix M t (by omega)
      rw [pw_at hlen t (by omega)] at hn1
      have px := HS.out.at t
      have py := HT.out.at t
      obtain ⟨x, hx⟩ : ∃ x, L.getD t 0 = x := ⟨_, rfl⟩
      obtain ⟨y, hy⟩ : ∃ y, M.getD t 0 = y := ⟨_, rfl⟩
      rw [hx] at c1 px hn1 hn2
      rw [hy] at c2 py hn1 hn3
      rw [← hp] at hn1
      rw [← hsx] at hn2
      rw [← hq] at hn3
      obtain ⟨x0, x1⟩ := px
      obtain ⟨y0, y1⟩ := py
      have mb := mul_bd (A := 1000) (B := 1000) (by decide) (by decide) x0 x1 y0 y1
      obtain ⟨xy, hxy⟩ : ∃ z, x * y = z := ⟨_, rfl⟩
      have HN : Hid (p + x * y = su ix ((pw L M).take (t + 1)) ∧ s + x = su ix (L.take (t + 1)) ∧ q + y = su ix (M.take (t + 1))) := ⟨hn1.symm, hn2.symm, hn3.symm⟩
      rw [hxy] at mb
      obtain ⟨mb0, mb1⟩ : -1000000 ≤ xy ∧ xy ≤ 1000000 := by omega
      have m1 : wrap64 (x * y) = xy := by rw [hxy]; exact IntWalk.wrap64_in _ (by omega)
      have m2 : IntKind.i64.wrap (x * y) = xy := by rw [hxy]; exact IntWalk.i64_in _ (by omega)
      have m3 : IntKind.i64.wrap (p + xy) = p + xy := IntWalk.i64_in _ (by omega)
      have ti : (t : Int) < (n : Int) := by omega
      have HXY := Lib.hid (And.intro hx (And.intro hy hxy))
      clear hb hp hsx hq hac hac' hx hy hn1 hn2 hn3 mb hxy
      go_wp2
      go_quiet (fail)
      go_wp2
      go_roundw
      case rel => exact ⟨t + 1, _, _, _, _, rfl, by omega, by go_num, rfl, rfl, rfl, by rw [← HN.out.1, HXY.out.2.2], HN.out.2.1, HN.out.2.2, by first | exact HB.out.drwN _ | exact HB.out.drw | exact HB.out⟩
      case measure => simp [intOf]; omega
    · obtain rfl : t = n := by omega
      rw [List.take_of_length_le (by have := HPL.out; omega)] at hp
      rw [List.take_of_length_le (by omega)] at hsx
      rw [List.take_of_length_le (by omega)] at hq
      have HN := Lib.hid (And.intro hp (And.intro hsx hq))
      have e1 := mul_bd (A := 32) (B := 32000000) (x := (t : Int)) (y := p) (by decide) (by decide) (by omega) (by omega) (by omega) (by omega)
      have e2 := mul_bd (A := 32000) (B := 32000) (by decide) (by decide) b20 b21 b30 b31
      have m1 : wrap64 ((t : Int) * p) = (t : Int) * p := IntWalk.wrap64_in _ (by omega)
      have m2 : wrap64 (s * q) = s * q := IntWalk.wrap64_in _ (by omega)
      have m3 : wrap64 ((t : Int) * p - s * q) = (t : Int) * p - s * q := IntWalk.wrap64_in _ (by omega)
      clear hb hp hsx hq e1 e2
      go_wp2
      go_ret
      exact ⟨ret_int (m3.trans (by rw [HE.out, ← HN.out.1, ← HN.out.2.1, ← HN.out.2.2])), HB.out⟩
set_option maxHeartbeats 4000000 in
theorem rProd_ok (A A' : Option Addr) (c c' n : Nat) (L M : List Int) (n1 : 2 ≤ n) (n2 : n ≤ 32) (hs : Sam L) (ht : Sam M) (w : World) (h1 : Zi w A n L) (h2 : Zi w A' n M) :
    Calls Try.prog 84 #[.slice A n c, .slice A' n c'] w fun e w' => e = .returned (.tuple #[.int .i64 (pr L M), .int .i64 0]) ∧ Bel w w' := by
  have HW : Hid (∀ W, Bel w W → _) := fun W hW => R12.two_ok A A' c c' n L M n1 n2 hs ht W (h1.bel hW) (h2.bel hW)
  have HQ : Hid (∀ W, Bel w W → _) := fun W hW => rprod_ok A A' c c' n L M n2 hs ht W (h1.bel hW) (h2.bel hW)
  clear h1 h2 hs ht
  go_enter Try.func84, Try.ntmps84
  go_wp2_with fail
  go_at_call 52
  refine (HW.out _ Bel.rf).mono ?_
  rintro e w1 ⟨rfl, hb1⟩
  have HB1 := Lib.hid hb1
  clear hb1
  go_wp2_with (go_at_call 86; refine (HQ.out _ HB1.out).mono ?_; rintro e w2 ⟨rfl, hb2⟩)
  go_ret2
  exact ⟨rfl, HB1.out.tr hb2⟩
set_option maxHeartbeats 4000000 in
theorem between_ok (c v u : Int) (v0 : 0 ≤ v) (u0 : 0 ≤ u) (v1 : v ≤ 1024000000) (u1 : u ≤ 1024000000) (c0 : -1024000000 ≤ c) (c1 : c ≤ 1024000000) (h : c * c ≤ v * u) (w : World) :
    Calls Try.prog 85 #[.int .i64 c, .int .i64 v, .int .i64 u] w fun e w' => e = .returned (.agg #[.int .i64 (rN v u c), .int .i64 (rD v u c)]) ∧ Bel w w' := by
  have g := gap_in v0 u0 v1 u1 h
  have r := red_in v0 u0 v1 u1 h
  have vw := vw_le v0 u0 v1 u1
  have sge := sg_in h
  have HMK : Hid (∀ W, Calls Try.prog 55 #[.int .i64 (gN v u c), .int .i64 (gD v u)] W fun e w' => e = .returned (.tuple #[.agg #[.int .i64 (rN v u c), .int .i64 (rD v u c)], .int .i64 0]) ∧ Bel W w') := fun W =>
    rmk_ok (gN v u c) (gD v u) g.1 g.2.2.1 (by omega) (by omega) r.1 W
  have hnn : 0 ≤ c * c := sq_nn c
  rcases Classical.em (v = 0) with hv | hv
  · rcases Classical.em (u = 0) with hu | hu
    · subst hv
      subst hu
      rw [show rN 0 0 c = 0 by unfold rN gN gD; simp, show rD 0 0 c = 1 by unfold rD gN gD; simp [gd_one]]
      clear HMK g r vw sge hnn h
      go_enter Try.func85, Try.ntmps85
      go_wp2
      refine bodyPost_ret (v := .agg #[.int .i64 0, .int .i64 1]) (by simp [results, Try.results85, go_sem]) rfl ⟨rfl, (Bel.rf.al _).al _⟩
    · subst hv
      rw [show rN 0 u c = 1 by unfold rN gN gD; simp [hu, gd_one], show rD 0 u c = 1 by unfold rD gN gD; simp [hu, gd_one]]
      clear HMK g r vw sge hnn h
      have k1 : (u = 0) = False := eq_false hu
      go_enter Try.func85, Try.ntmps85
      go_wp2
      refine bodyPost_ret (v := .agg #[.int .i64 1, .int .i64 1]) (by simp [results, Try.results85, go_sem]) rfl ⟨rfl, (Bel.rf.al _).al _⟩
  · rcases Classical.em (u = 0) with hu | hu
    · subst hu
      rw [show rN v 0 c = 1 by unfold rN gN gD; simp [hv, gd_one], show rD v 0 c = 1 by unfold rD gN gD; simp [hv, gd_one]]
      clear HMK g r vw sge hnn h
      have k1 : (v = 0) = False := eq_false hv
      go_enter Try.func85, Try.ntmps85
      go_wp2
      refine bodyPost_ret (v := .agg #[.int .i64 1, .int .i64 1]) (by simp [results, Try.results85, go_sem]) rfl ⟨rfl, (Bel.rf.al _).al _⟩
    · have hD : gD v u = v * u := by unfold gD; rw [if_neg hv, if_neg hu]
      rcases Int.lt_or_le c 0 with hc | hc
      · have hN : gN v u c = v * u + c * c := by unfold gN sg; rw [if_neg hv, if_neg hu]; split <;> omega
        rw [hN, hD] at HMK
        generalize rN v u c = X at *
        generalize rD v u c = Y at *
        have w1 : IntKind.i64.wrap (v * u) = v * u := IntWalk.i64_in _ (by omega)
        have w2 : IntKind.i64.wrap (c * c) = c * c := IntWalk.i64_in _ (by omega)
        have w3 : IntKind.i64.wrap (v * u + c * c) = v * u + c * c := IntWalk.i64_in _ (by omega)
        have k1 : (v == 0) = false := by simpa using hv
        have k2 : (u == 0) = false := by simpa using hu
        have k4 : (v != 0) = true := by simpa using hv
        have k5 : (u != 0) = true := by simpa using hu
        have k3 : ¬ 0 ≤ c := by omega
        have w4 : wrap64 (v * u) = v * u := IntWalk.wrap64_in _ (by omega)
        have w5 : wrap64 (c * c) = c * c := IntWalk.wrap64_in _ (by omega)
        clear g r vw sge hnn h hN hD
        go_enter Try.func85, Try.ntmps85
        go_wp2_with fail
        go_at_call 55
        refine (HMK.out _).mono ?_
        rintro e w4 ⟨rfl, hb4⟩
        have K6 : Bk w4 w.heap.size 37 #[.int .i64 0, .int .i64 0] := ((Bk.nw _ _ _).al _).bel hb4
        have K7 : Bk w4 (w.heap.size + 1) 37 #[.int .i64 1, .int .i64 1] := (Bk.nq _ _ _ (by simp)).bel hb4
        have l0 : w4.cell? ⟨w.heap.size, 0, none⟩ = some (.int .i64 0) := K6.cell 0
        have l1 : w4.cell? ⟨w.heap.size, 1, none⟩ = some (.int .i64 0) := K6.cell 1
        have j0 := K6.fr 0
        have j1 := K6.fr 1
        have n0 : w4.cell? ⟨w.heap.size + 1, 0, none⟩ = some (.int .i64 1) := K7.cell 0
        have n1 : w4.cell? ⟨w.heap.size + 1, 1, none⟩ = some (.int .i64 1) := K7.cell 1
        have p0 := K7.fr 0
        have p1 := K7.fr 1
        have HF : Hid (Bel w w4) := ((Bel.rf.al _).al _).tr hb4
        clear hb4 K6 K7
        go_wp2
        refine bodyPost_ret (v := .agg #[.int .i64 X, .int .i64 Y]) (by simp [results, Try.results85, go_sem, l0, l1]) rfl ⟨rfl, ?_⟩
        exact (((HF.out.st (Nat.le_succ _) _).st (Nat.le_succ _) _).st (Nat.le_refl _) _).st (Nat.le_refl _) _
      · have hN : gN v u c = v * u - c * c := by unfold gN sg; rw [if_neg hv, if_neg hu]; split <;> omega
        rw [hN, hD] at HMK
        generalize rN v u c = X at *
        generalize rD v u c = Y at *
        have w1 : IntKind.i64.wrap (v * u) = v * u := IntWalk.i64_in _ (by omega)
        have w2 : IntKind.i64.wrap (c * c) = c * c := IntWalk.i64_in _ (by omega)
        have w3 : IntKind.i64.wrap (v * u - c * c) = v * u - c * c := IntWalk.i64_in _ (by omega)
        have w4 : wrap64 (v * u) = v * u := IntWalk.wrap64_in _ (by omega)
        have w5 : wrap64 (c * c) = c * c := IntWalk.wrap64_in _ (by omega)
        have k1 : (v == 0) = false := by simpa using hv
        have k2 : (u == 0) = false := by simpa using hu
        have k4 : (v != 0) = true := by simpa using hv
        have k5 : (u != 0) = true := by simpa using hu
        clear g r vw sge hnn h hN hD
        go_enter Try.func85, Try.ntmps85
        go_wp2_with fail
        go_at_call 55
        refine (HMK.out _).mono ?_
        rintro e w4 ⟨rfl, hb4⟩
        have K6 : Bk w4 w.heap.size 37 #[.int .i64 0, .int .i64 0] := ((Bk.nw _ _ _).al _).bel hb4
        have K7 : Bk w4 (w.heap.size + 1) 37 #[.int .i64 1, .int .i64 1] := (Bk.nq _ _ _ (by simp)).bel hb4
        have l0 : w4.cell? ⟨w.heap.size, 0, none⟩ = some (.int .i64 0) := K6.cell 0
        have l1 : w4.cell? ⟨w.heap.size, 1, none⟩ = some (.int .i64 0) := K6.cell 1
        have j0 := K6.fr 0
        have j1 := K6.fr 1
        have n0 : w4.cell? ⟨w.heap.size + 1, 0, none⟩ = some (.int .i64 1) := K7.cell 0
        have n1 : w4.cell? ⟨w.heap.size + 1, 1, none⟩ = some (.int .i64 1) := K7.cell 1
        have p0 := K7.fr 0
        have p1 := K7.fr 1
        have HF : Hid (Bel w w4) := ((Bel.rf.al _).al _).tr hb4
        clear hb4 K6 K7
        go_wp2
        refine bodyPost_ret (v := .agg #[.int .i64 X, .int .i64 Y]) (by simp [results, Try.results85, go_sem, l0, l1]) rfl ⟨rfl, ?_⟩
        exact (((HF.out.st (Nat.le_succ _) _).st (Nat.le_succ _) _).st (Nat.le_refl _) _).st (Nat.le_refl _) _
set_option maxHeartbeats 4000000 in
theorem rGap_ok (A A' : Option Addr) (c c' n : Nat) (L M : List Int) (n1 : 2 ≤ n) (n2 : n ≤ 32) (hs : Sam L) (ht : Sam M) (w : World) (h1 : Zi w A n L) (h2 : Zi w A' n M) :
    Calls Try.prog 41 #[.slice A n c, .slice A' n c'] w fun e w' => e = .returned (.tuple #[.agg #[.int .i64 (rN (vr L) (vr M) (pr L M)), .int .i64 (rD (vr L) (vr M) (pr L M))], .int .i64 0]) ∧ Bel w w' := by
  have hl : L.length = M.length := by rw [h1.1, h2.1]
  have hl2 := h1.1
  have v := vr_le hs (by omega)
  have u := vr_le ht (by omega)
  have p := pr_le hs ht (by omega) hl
  have cs := pr_cs hl
  have HP : Hid (∀ W, Bel w W → _) := fun W hW => rProd_ok A A' c c' n L M n1 n2 hs ht W (h1.bel hW) (h2.bel hW)
  have HV : Hid (∀ W, Bel w W → Calls Try.prog 86 #[.slice A n c, .slice A n c] W fun e w' => e = .returned (.int .i64 (vr L)) ∧ Bel W w') := fun W hW => by
    rw [← pr_self]; exact rprod_ok A A c c n L L n2 hs hs W (h1.bel hW) (h1.bel hW)
  have HU : Hid (∀ W, Bel w W → Calls Try.prog 86 #[.slice A' n c', .slice A' n c'] W fun e w' => e = .returned (.int .i64 (vr M)) ∧ Bel W w') := fun W hW => by
    rw [← pr_self]; exact rprod_ok A' A' c' c' n M M n2 ht ht W (h2.bel hW) (h2.bel hW)
  have HT : Hid (∀ W, _) := fun W => between_ok (pr L M) (vr L) (vr M) v.1 u.1 v.2 u.2 (by omega) (by omega) cs W
  generalize rN (vr L) (vr M) (pr L M) = X at *
  generalize rD (vr L) (vr M) (pr L M) = Y at *
  generalize vr L = V at *
  generalize vr M = U at *
  generalize pr L M = C at *
  clear h1 h2 hs ht v u p cs hl hl2
  go_enter Try.func41, Try.ntmps41
  go_wp2_with fail
  go_at_call 84
  refine (HP.out _ (Bel.rf.al _)).mono ?_
  rintro e w1 ⟨rfl, hb1⟩
  have HB1 : Hid (Bel w w1) := (Bel.rf.al _).tr hb1
  have HK1 : Hid (Bk w1 w.heap.size 37 #[.int .i64 0, .int .i64 0]) := (Bk.nw _ _ _).bel hb1
  clear hb1
  go_wp2_with fail
  go_at_call 86
  refine (HV.out _ HB1.out).mono ?_
  rintro e w2 ⟨rfl, hb2⟩
  have HB2 := Lib.hid (HB1.out.tr hb2)
  have HK2 := Lib.hid (HK1.out.bel hb2)
  clear hb2
  go_wp2_with fail
  go_at_call 86
  refine (HU.out _ HB2.out).mono ?_
  rintro e w3 ⟨rfl, hb3⟩
  have HB3 := Lib.hid (HB2.out.tr hb3)
  have HK3 := Lib.hid (HK2.out.bel hb3)
  clear hb3
  go_wp2_with fail
  go_at_call 85
  refine (HT.out _).mono ?_
  rintro e w4 ⟨rfl, hb4⟩
  have K4 := HK3.out.bel hb4
  have l0 : w4.cell? ⟨w.heap.size, 0, none⟩ = some (.int .i64 0) := K4.cell 0
  have l1 : w4.cell? ⟨w.heap.size, 1, none⟩ = some (.int .i64 0) := K4.cell 1
  have j0 := K4.fr 0
  have j1 := K4.fr 1
  have HF := Lib.hid (HB3.out.tr hb4)
  clear hb4 K4
  go_wp2
  refine bodyPost_ret (v := .tuple #[.agg #[.int .i64 X, .int .i64 Y], .int .i64 0]) (by simp [results, Try.results41, go_sem, l0, l1]) rfl ⟨rfl, ?_⟩
  exact (HF.out.st (Nat.le_refl _) _).st (Nat.le_refl _) _
end Go.Proofs.Ytmgdoglnckkobaa.Ch
namespace Go.Proofs.Ytmgdoglnckkobaa.Sk
open Go.ChangeShapes Go.WideShapes Go.RowKit Wo Sr Wi Ra Nr Eu
set_option linter.unusedVariables false
theorem cmp_le {t u t' u' T S C : Int} (hC : 1 ≤ C) (h : Vl t u T C) (k : Vl t' u' S C) (hle : T ≤ S) (w : World) :
    Calls Try.prog 43 #[.agg #[.int .i64 t, .int .i64 u], .agg #[.int .i64 t', .int .i64 u']] w fun e w' => ∃ c, e = .returned (.int .i64 c) ∧ c ≤ 0 ∧ Bel w w' := by
  refine (rcmp_ok t u t' u' h.1 k.1 w).mono ?_
  rintro e w' ⟨rfl, hb⟩
  refine ⟨_, rfl, ?_, hb⟩
  have hl := (vl_le hC h k).2 hle
  rcases Int.lt_trichotomy (t * u') (t' * u) with g | g | g
  · rw [cmpI_lt g]; decide
  · rw [cmpI_eq g]; decide
  · omega
theorem row_cap {w : World} {base h n c : Nat} {L : List Int} (hr : w.ownsRow base 3 1 (.slice (some ⟨h, 0, none⟩) n c) n (zs L)) : n ≤ c := by
  rcases hr.2 with ⟨h0, _⟩ | ⟨g, cap, cur, hv, hb, hg, h1, _⟩
  · cases h0
  · injection hv with a b e
    omega
/-- four fifths of a sample -/
def fif (a : Int) : Int := (a * 4).tdiv 5
theorem fif_in {a : Int} (h0 : -1000 ≤ a) (h1 : a ≤ 1000) : -800 ≤ fif a ∧ fif a ≤ 800 := by
  unfold fif
  rcases Int.lt_or_le a 0 with h | h
  · have e : (a * 4).tdiv 5 = -((-(a * 4)).tdiv 5) := by rw [Int.neg_tdiv, Int.neg_neg]
    rw [e, Int.tdiv_eq_ediv_of_nonneg (by omega)]
    omega
  · rw [Int.tdiv_eq_ediv_of_nonneg (by omega)]
    omega
theorem own_far {w : World} {base h n c : Nat} {xs : List Value} {e : TypeId} (hown : w.ownsRow base e 1 (.slice (some ⟨h, 0, none⟩) n c) n xs) {p : Addr} (hp : h ≠ p.block) (u : Value) : (w.setCell p u).ownsRow base e 1 (.slice (some ⟨h, 0, none⟩) n c) n xs := by
  refine ⟨hown.1, ?_⟩
  rcases hown.2 with ⟨h0, _⟩ | ⟨g, cap, cur, e1, hb, hg, h1⟩
  · cases h0
  · have e2 := e1
    injection e1 with e1 _ _
    injection e1 with e1
    cases e1
    exact .inr ⟨h, cap, cur, e2, hb, Bk.far (t := e) hg hp u, h1⟩
theorem bel_low {w a b : World} {B : Nat} (h : Bel w a) (hb : Below B a b) (hB : w.heap.size ≤ B) : Bel w b := Below.trans h (Below.mono hb hB)
theorem cen_mv (b : Int) (D : List Int) : cen (af 1 b D) = cen D := by
  unfold cen
  rw [af_su, af_len]
  unfold af
  rw [List.map_map]
  refine List.map_congr_left (fun x _ => ?_)
  show (x * 1 + b) * (D.length : Int) + -(1 * su ix D + (D.length : Int) * b) = x * (D.length : Int) + -su ix D
  grind
theorem cen_sc (f : Int) (D : List Int) : cen (af f 0 D) = af f 0 (cen D) := by
  unfold cen
  rw [af_su, af_len]
  unfold af
  rw [List.map_map, List.map_map]
  refine List.map_congr_left (fun x _ => ?_)
  show (x * f + 0) * (D.length : Int) + -(f * su ix D + (D.length : Int) * 0) = (x * (D.length : Int) + -su ix D) * f + 0
  grind
theorem pa_sc (f : Int) (P : List Int) (m n k : Nat) (hP : P.length = m) (n1 : 1 ≤ n) (hk : k < n) : pa (cen (af f 0 P)) m n k = pa (cen P) m n k * f := by
  rw [cen_sc]
  unfold pa
  rw [pg_af f 0 (cen P) _ _ (st_mono m n _ _ (by omega)) (by rw [cen_len', hP]; exact st_le m n _ n1 (by omega))]
  rw [Int.mul_zero, Int.add_zero, Int.mul_comm]
end Go.Proofs.Ytmgdoglnckkobaa.Sk
namespace Go.Proofs.Ytmgdoglnckkobaa.Ms
open Go.ChangeShapes Go.WideShapes Go.RowKit Wo Sr Wi
set_option linter.unusedVariables false
/-- a valid measure -/
def Mv (k b g : Int) : Prop := ((k = 1 ∨ k = 2 ∨ k = 3) ∧ b = 0 ∧ g = 0) ∨ (k = 4 ∧ 0 ≤ b ∧ b ≤ 32 ∧ g = 0) ∨ (k = 5 ∧ b = 0 ∧ -1000 ≤ g ∧ g ≤ 1000)
end Go.Proofs.Ytmgdoglnckkobaa.Ms
namespace Go.Proofs.Ytmgdoglnckkobaa.Wd
set_option linter.unusedVariables false
/-- cuts that ascend -/
def Cv (C : List Int) : Prop := C.length ≤ 15 ∧ (∀ i, i < C.length → -2000 ≤ C.getD i 0 ∧ C.getD i 0 ≤ 2000) ∧ ∀ i, i + 1 < C.length → C.getD i 0 < C.getD (i + 1) 0
theorem cv_lt {C : List Int} (h : Cv C) : ∀ {i j : Nat}, i < j → j < C.length → C.getD i 0 < C.getD j 0 := fun {i j} hij => by
  induction j with
  | zero => omega
  | succ j ih =>
    intro hj
    have h1 := h.2.2 j hj
    rcases Nat.lt_or_ge i j with k | k
    · have := ih k (by omega); omega
    · obtain rfl : i = j := by omega
      exact h1
/-- how many of the first cuts are at most c -/
def sym : List Int → Int → Nat
  | [], _ => 0
  | x :: C, c => if x ≤ c then sym C c + 1 else 0
theorem sym_le : ∀ (C : List Int) (c : Int), sym C c ≤ C.length
  | [], _ => Nat.le_refl _
  | x :: C, c => by
    have := sym_le C c
    unfold sym
    split
    · simp; exact this
    · simp
theorem sym_at {C : List Int} (h : ∀ {i j : Nat}, i < j → j < C.length → C.getD i 0 < C.getD j 0) (c : Int) : ∀ i, i < C.length → (C.getD i 0 ≤ c ↔ i < sym C c) := by
  induction C with
  | nil => intro i hi; simp at hi
  | cons x C ih =>
    intro i hi
    have h' : ∀ {i j : Nat}, i < j → j < C.length → C.getD i 0 < C.getD j 0 := fun {i j} a b => by simpa using h (i := i + 1) (j := j + 1) (by omega) (by simpa using b)
    unfold sym
    by_cases hx : x ≤ c
    · rw [if_pos hx]
      rcases i with _ | i
      · simp [hx]
      · have := ih h' i (by simpa using hi)
        simpa using this
    · rw [if_neg hx]
      rcases i with _ | i
      · simp [hx]
      · have h1 := h (i := 0) (j := i + 1) (by omega) hi
        have e0 : (x :: C).getD 0 0 = x := rfl
        rw [e0] at h1
        constructor
        · intro h2; omega
        · intro h2; omega
theorem sym_iff {C : List Int} (h : Cv C) (c : Int) (i : Nat) (hi : i < C.length) : C.getD i 0 ≤ c ↔ i < sym C c := sym_at (cv_lt h) c i hi
theorem sym_one {C : List Int} (h : Cv C) (c : Int) (k : Nat) (hk : k ≤ C.length) (h1 : ∀ i, i < k → C.getD i 0 ≤ c) (h2 : ∀ i, k ≤ i → i < C.length → c < C.getD i 0) : sym C c = k := by
  have hl := sym_le C c
  rcases Nat.lt_trichotomy (sym C c) k with g | g | g
  · have := (sym_iff h c (sym C c) (by omega)).1 (h1 _ g); omega
  · exact g
  · have := (sym_iff h c k (by omega)).2 g
    have := h2 k (Nat.le_refl _) (by omega)
    omega
/-- the interval of the symbols from f to t -/
def ivl (C : List Int) (f t : Nat) : Int × Int :=
  if C.length < f then (1, 0) else (if 0 < f then C.getD (f - 1) 0 else -1099511627776, if t < C.length then C.getD t 0 - 1 else 1099511627776)
theorem ivl_in {C : List Int} (h : Cv C) (f t : Nat) (hft : f ≤ t) (c : Int) (c1 : -1099511627776 ≤ c) (c2 : c ≤ 1099511627776) : ((ivl C f t).1 ≤ c ∧ c ≤ (ivl C f t).2) ↔ (f ≤ sym C c ∧ sym C c ≤ t) := by
  have hl := sym_le C c
  unfold ivl
  by_cases hf : C.length < f
  · rw [if_pos hf]
    constructor
    · rintro ⟨a, b⟩; simp at a b; omega
    · intro a; omega
  · rw [if_neg hf]
    have e1 : ((if 0 < f then C.getD (f - 1) 0 else -1099511627776 : Int) ≤ c) ↔ f ≤ sym C c := by
      by_cases h0 : 0 < f
      · rw [if_pos h0, sym_iff h c (f - 1) (by omega)]; omega
      · rw [if_neg h0]; omega
    have e2 : (c ≤ (if t < C.length then C.getD t 0 - 1 else 1099511627776 : Int)) ↔ sym C c ≤ t := by
      by_cases h0 : t < C.length
      · rw [if_pos h0]
        have := sym_iff h c t h0
        constructor
        · intro a
          have : ¬ C.getD t 0 ≤ c := by omega
          have : ¬ t < sym C c := fun b => this ((sym_iff h c t h0).2 b)
          omega
        · intro a
          have : ¬ C.getD t 0 ≤ c := fun b => by have := (sym_iff h c t h0).1 b; omega
          omega
      · rw [if_neg h0]; omega
    exact and_congr e1 e2
/-- a word of n pieces -/
def Wv (n : Nat) (S B : List Int) : Prop := S.length = n ∧ B.length = n ∧ ∀ p, p < n → 0 ≤ B.getD p 0 ∧ B.getD p 0 ≤ 4 ∧ 0 ≤ S.getD p 0 ∧ S.getD p 0 < 2 ^ (B.getD p 0).toNat
/-- the first and the last full symbol of a symbol of so many bits -/
def fst (s : Int) (b : Nat) : Nat := s.toNat * 2 ^ (4 - b)
def lst (s : Int) (b : Nat) : Nat := fst s b + 2 ^ (4 - b) - 1
theorem sh_in {F s : Int} {b : Nat} (F0 : 0 ≤ F) (s0 : 0 ≤ s) (b4 : b ≤ 4) : F / 2 ^ (4 - b) = s ↔ (fst s b ≤ F.toNat ∧ F.toNat ≤ lst s b) := by
  obtain ⟨f, rfl⟩ := Int.eq_ofNat_of_zero_le F0
  obtain ⟨t, rfl⟩ := Int.eq_ofNat_of_zero_le s0
  unfold lst fst
  rcases (by omega : b = 0 ∨ b = 1 ∨ b = 2 ∨ b = 3 ∨ b = 4) with rfl | rfl | rfl | rfl | rfl <;> simp <;> omega
end Go.Proofs.Ytmgdoglnckkobaa.Wd
namespace Go.Proofs.Ytmgdoglnckkobaa.Wd
open Go.ChangeShapes Go.WideShapes Go.RowKit Wo Sr Wi Ms
set_option linter.unusedVariables false
/-- the value of a scheme -/
def Sx (k b g : Int) (m n : Nat) (A : Option Addr) (nc cc : Nat) : Value := .agg #[.int .i64 k, .int .i64 b, .int .i64 g, .int .i64 (m : Int), .int .i64 (n : Int), .slice A nc cc]
/-- a valid scheme -/
structure Sv (k b g : Int) (m n : Nat) (C : List Int) : Prop where
  mv : Mv k b g
  m2 : 2 ≤ m
  m32 : m ≤ 32
  n1 : 1 ≤ n
  n8 : n ≤ 8
  nm : n ≤ m
  cv : Cv C
end Go.Proofs.Ytmgdoglnckkobaa.Wd
namespace Go.Proofs.Ytmgdoglnckkobaa.Wd
open Go.ChangeShapes Go.WideShapes Go.RowKit Wo Sr Wi Ms
set_option linter.unusedVariables false
set_option linter.unusedSimpArgs false
theorem results_i {fn : Func} {p : Tmp} (h : fn.results = #[.cell p 98]) (tmps : Array Value) (w : World) (g : Nat) (a b : Value)
    (hp : tmps.getD p undef = .pointer (some ⟨g, 0, none⟩)) (hg : Bk w g 98 #[a, b]) : (results fn tmps).run Try.prog w = .ok (.agg #[a, b]) w := by
  have hp' : tmps[p]?.getD undef = .pointer (some ⟨g, 0, none⟩) := by simpa using hp
  have hl := run_loadVar_row (P := Try.prog) w g 98 98 #[a, b] (0, 0) _ hg Try.underlying98 rfl (by kernel_rfl)
  simp [results, h, hp', asAddr, hl]
/-- the value of an interval -/
def Iv (p : Int × Int) : Value := .agg #[.int .i64 p.1, .int .i64 p.2]
end Go.Proofs.Ytmgdoglnckkobaa.Wd
namespace Go.Proofs.Ytmgdoglnckkobaa.Wd
open Go.ChangeShapes Go.WideShapes Go.RowKit Wo Sr Wi Ms
set_option linter.unusedVariables false
set_option linter.unusedSimpArgs false
/-- the value of a word -/
def Wx (n : Nat) (sA bA : Option Addr) (sc bc : Nat) : Value := .agg #[.slice sA n sc, .slice bA n bc]
end Go.Proofs.Ytmgdoglnckkobaa.Wd
namespace Go.Proofs.Ytmgdoglnckkobaa.Wd
open Go.ChangeShapes Go.WideShapes Go.RowKit Wo Sr Wi Ms
set_option linter.unusedVariables false
set_option linter.unusedSimpArgs false
/-- each piece of the full word begins with the bits of the word -/
def Blg (n : Nat) (S B F : List Int) : Prop := ∀ p, p < n → F.getD p 0 / 2 ^ (4 - (B.getD p 0).toNat) = S.getD p 0
instance (n : Nat) (S B F : List Int) : Decidable (Blg n S B F) := by unfold Blg; exact inferInstance
end Go.Proofs.Ytmgdoglnckkobaa.Wd
namespace Go.Proofs.Ytmgdoglnckkobaa.Wd
open Go.ChangeShapes Go.WideShapes Go.RowKit Wo Sr Wi Ms
set_option linter.unusedVariables false
set_option linter.unusedSimpArgs false
abbrev Rp := Int × Int
def rs (l : List Rp) : List Value := l.flatMap fun p => [.int .i64 p.1, .int .i64 p.2]
theorem rs_cons (p : Rp) (l : List Rp) : rs (p :: l) = .int .i64 p.1 :: .int .i64 p.2 :: rs l := rfl
theorem rs_at : ∀ (l : List Rp) (i : Nat), i < l.length → (rs l)[i * 2]? = some (.int .i64 (l.getD i (0, 0)).1) ∧ (rs l)[i * 2 + 1]? = some (.int .i64 (l.getD i (0, 0)).2)
  | [], i, h => by simp at h
  | a :: l, 0, _ => ⟨rfl, rfl⟩
  | a :: l, i + 1, h => by
    have ih := rs_at l i (by simpa using h)
    rw [rs_cons, show (i + 1) * 2 = i * 2 + 1 + 1 by omega]
    exact ih
/-- the first k of these, then zeros -/
def flz (L : List Rp) (k : Nat) : List Rp := L.take k ++ List.replicate (L.length - k) (0, 0)
theorem flz_len (L : List Rp) (k : Nat) (h : k ≤ L.length) : (flz L k).length = L.length := by simp [flz]; omega
theorem flz_all (L : List Rp) : flz L L.length = L := by simp [flz]
theorem flz_next (L : List Rp) (k : Nat) (h : k < L.length) : (flz L k).set k (L.getD k (0, 0)) = flz L (k + 1) := by
  unfold flz
  rw [List.set_append_right _ _ (by simp; omega)]
  have e : k - (L.take k).length = 0 := by simp; omega
  rw [e, show L.length - k = (L.length - (k + 1)) + 1 by omega, List.replicate_succ, List.set_cons_zero, List.take_add_one, List.getElem?_eq_getElem h, List.getD_eq_getElem?_getD, List.getElem?_eq_getElem h]
  show List.take k L ++ (L[k] :: _) = (List.take k L ++ [L[k]]) ++ _
  rw [List.append_assoc]
  rfl
theorem rs_set : ∀ (l : List Rp) (i : Nat) (p : Rp), rs (l.set i p) = ((rs l).set (i * 2) (.int .i64 p.1)).set (i * 2 + 1) (.int .i64 p.2)
  | [], i, p => by simp [rs]
  | a :: l, 0, p => by simp [rs]
  | a :: l, i + 1, p => by
    have ih := rs_set l i p
    show rs (a :: l.set i p) = _
    rw [rs_cons, rs_cons, ih, show (i + 1) * 2 = i * 2 + 1 + 1 by omega]
    rfl
theorem made_iv (n : Nat) (h : n ≤ 8) : madeCells (Value.agg #[.int .i64 0, .int .i64 0]).cells (n * 2) = (rs (List.replicate n (0, 0))).toArray := by
  apply Array.ext'
  rw [madeCells]
  rcases (by omega : n = 0 ∨ n = 1 ∨ n = 2 ∨ n = 3 ∨ n = 4 ∨ n = 5 ∨ n = 6 ∨ n = 7 ∨ n = 8) with rfl | rfl | rfl | rfl | rfl | rfl | rfl | rfl | rfl <;> first | kernel_rfl | rfl | (simp [rs, Value.cells, List.ofFn]; done) | (simp [rs, Value.cells]; done)
theorem info_iv : (Try.prog.info? 98).map (fun i => (i.zero, i.size, i.bytes)) = some (some (.agg #[.int .i64 0, .int .i64 0]), 2, 16) := by kernel_rfl
/-- the intervals of a word -/
def rgn (n : Nat) (C S B : List Int) : List Rp := (List.range n).map fun p => ivl C (fst (S.getD p 0) (B.getD p 0).toNat) (lst (S.getD p 0) (B.getD p 0).toNat)
theorem rgn_len (n : Nat) (C S B : List Int) : (rgn n C S B).length = n := by simp [rgn]
theorem rgn_at (n : Nat) (C S B : List Int) (p : Nat) (h : p < n) : (rgn n C S B).getD p (0, 0) = ivl C (fst (S.getD p 0) (B.getD p 0).toNat) (lst (S.getD p 0) (B.getD p 0).toNat) := by
  unfold rgn
  rw [List.getD_eq_getElem?_getD, List.getElem?_map, List.getElem?_range h]; rfl
def SomeIv (n : Nat) (L : List Rp) (w : World) (e : Ending) (w' : World) : Prop := ∃ a, e = .returned (.tuple #[.slice (some ⟨a, 0, none⟩) n n, .int .i64 0]) ∧ w.heap.size ≤ a ∧ Bk w' a 98 (rs L).toArray ∧ Bel w w'
end Go.Proofs.Ytmgdoglnckkobaa.Wd
namespace Go.Proofs.Ytmgdoglnckkobaa.Rb
open Go
set_option linter.unusedVariables false
section
variable {P : Program} {ops : Array Oper} {Q : Exit → Act → World → Prop} {md : Region.Mode} {S : World → Prop} {b : Nat}
/-- any order from here on; S holds behind each operation as long as b has not come up -/
def Till (P : Program) (md : Region.Mode) (ops : Array Oper) (Q : Exit → Act → World → Prop) (S : World → Prop) (b : Nat) : Nat → Array Bool → Act → World → Prop
  | 0, li, a, w => Region.ready md ops li = [] ∧ Q .normal a w
  | n + 1, li, a, w => (Region.ready md ops li = [] → Q .normal a w) ∧
    ∀ i ∈ Region.ready md ops li, wpOp P ops Q i (fun a' w' => ((li.setIfInBounds i true).getD b true = false → S w') ∧ Till P md ops Q S b n (li.setIfInBounds i true) a' w') a w
theorem till_any : ∀ (n : Nat) (li : Array Bool) (a : Act) (w : World), Till P md ops Q S b n li a w → wpAny P md ops Q n li a w
  | 0, _, _, _, h => h
  | n + 1, _, _, _, h => ⟨h.1, fun i hi => wpOp_mono (fun a' w' h' => till_any n _ a' w' h'.2) (h.2 i hi)⟩
theorem fal_of {li : Array Bool} {i : Nat} (h : li.getD i true = false) : li.getD i false = false := by
  rcases Nat.lt_or_ge i li.size with q | q
  · simp [q] at h ⊢; exact h
  · simp [Array.getElem?_eq_none q] at h
theorem till_first {i : Nat} {oi : Oper} {v : Value} (hi : ops[i]? = some oi) (hsel : ∀ (j : Nat) (o : Oper) cs c, ops[j]? = some o → o.op ≠ .select cs c)
    (hQ : ∀ c a w, Q (.panic c) (a.put oi.dst v) w → Q (.panic c) a w) (hib : i ≠ b) (C : World → Prop)
    (hC : (∀ w, C w) ∨ (C = S ∧ ∃ ob, ops[b]? = some ob ∧ ∃ e ∈ ob.after, Region.binds md e = true ∧ e.on = i)) :
    ∀ (n : Nat) (li : Array Bool) (a : Act) (w : World),
      (∀ j oj, ops[j]? = some oj → j ≠ i → li.getD j true = false → (∀ e ∈ oj.after, Region.binds md e = true → e.on ≠ i) → oi.apart ops oj = true) →
      i ∈ Region.ready md ops li → YieldsIf P ops C oi v a → C w → (li.getD b true = false → S w) → ((∀ w, C w) ∨ li.getD b true = false) →
      Till P md ops Q S b n (li.setIfInBounds i true) (a.put oi.dst v) w → Till P md ops Q S b (n + 1) li a w := by
  have sb : ∀ li : Array Bool, (li.setIfInBounds i true).getD b true = li.getD b true := fun li => getD_set_ne _ hib
  intro n
  induction n with
  | zero =>
    intro li a w _ hr hy hc hs _ H
    refine ⟨fun h => (by rw [h] at hr; cases hr), fun j hj => ?_⟩
    by_cases hji : j = i
    · subst hji; exact hy.wpOp hi hc ⟨fun h => hs (by rw [← sb]; exact h), H⟩
    · have := ready_mono hj hji
      rw [H.1] at this
      cases this
  | succ n ih =>
    intro li a w hfree hr hy hc hs ht H
    refine ⟨fun h => (by rw [h] at hr; cases hr), fun j hj => ?_⟩
    by_cases hji : j = i
    · subst hji; exact hy.wpOp hi hc ⟨fun h => hs (by rw [← sb]; exact h), H⟩
    · have h1 := H.2 j (ready_mono hj hji)
      obtain ⟨hjun, oj, hoj, hall⟩ := mem_ready.1 hj
      have h0 := fal_of (mem_ready.1 hr).1
      have hnot : ∀ e ∈ oj.after, Region.binds md e = true → e.on ≠ i := fun e he hbi heq => by
        have h2 := hall e he hbi
        rw [heq, h0] at h2
        cases h2
      have h2 := wpOp_putIf hoj (hfree j oj hoj hji hjun hnot) (fun cs c => hsel i oi cs c hi) (fun cs c => hsel j oj cs c hoj) hQ hy h1
      have hfree' : ∀ k ok, ops[k]? = some ok → k ≠ i → (li.setIfInBounds j true).getD k true = false →
          (∀ e ∈ ok.after, Region.binds md e = true → e.on ≠ i) → oi.apart ops ok = true := fun k ok hk hki hun hno => by
        refine hfree k ok hk hki ?_ hno
        by_cases hjk : j = k
        · subst hjk; exact hjun
        · rw [getD_set_ne true hjk] at hun; exact hun
      refine wpOp_mono (fun a' w' h3 => ?_) h2
      have e0 : ((li.setIfInBounds i true).setIfInBounds j true).getD b true = (li.setIfInBounds j true).getD b true := by
        rw [Array.setIfInBounds_comm _ _ (Ne.symm hji)]; exact sb _
      have hs' : (li.setIfInBounds j true).getD b true = false → S w' := fun h => h3.2.1 (by rw [e0]; exact h)
      have ht' : (∀ w, C w) ∨ (li.setIfInBounds j true).getD b true = false := by
        rcases ht with h | h
        · exact .inl h
        · rcases hC with hC | ⟨_, ob, hob, e, he, hbi, hon⟩
          · exact .inl hC
          · refine .inr ?_
            have hjb : j ≠ b := by
              rintro rfl
              obtain rfl : oj = ob := by rw [hoj] at hob; exact Option.some.inj hob
              exact hnot e he hbi hon
            rw [getD_set_ne _ hjb]; exact h
      have hc' : C w' := by
        rcases ht' with h | h
        · exact h w'
        · rcases hC with hC | ⟨hC, _⟩
          · exact hC w'
          · rw [hC]; exact hs' h
      refine ⟨hs', ih (li.setIfInBounds j true) a' w' hfree' (ready_mono hr (Ne.symm hji)) h3.1 hc' hs' ht' ?_⟩
      rw [Array.setIfInBounds_comm _ _ hji]
      exact h3.2.2
/-- an operation that yields its value wherever S holds, and for which b waits, may be taken first -/
theorem till_take {i : Nat} {oi : Oper} {v : Value} {n : Nat} {li : Array Bool} {a : Act} {w : World} (hi : ops[i]? = some oi)
    (hsl : Region.noSelect ops = true) (hf : Region.free md ops li i = true) (hr : (Region.ready md ops li).contains i = true)
    (hQ : ∀ c a w, Q (.panic c) (a.put oi.dst v) w → Q (.panic c) a w) (hib : i ≠ b) (ob : Oper) (hob : ops[b]? = some ob) (hw : (ob.after.any fun e => Region.binds md e && e.on == i) = true)
    (hb : li.getD b true = false) (hy : YieldsIf P ops S oi v a) (hS : S w)
    (h : Till P md ops Q S b n (li.setIfInBounds i true) (a.put oi.dst v) w) : Till P md ops Q S b (n + 1) li a w := by
  obtain ⟨e, he, h1⟩ : ∃ e ∈ ob.after, (Region.binds md e && e.on == i) = true := by
    obtain ⟨k, hk, h2⟩ := Array.any_eq_true.1 hw
    exact ⟨_, Array.getElem_mem hk, h2⟩
  simp only [Bool.and_eq_true, beq_iff_eq] at h1
  exact till_first hi (Region.noSelect_spec hsl) hQ hib S (.inr ⟨rfl, ob, hob, e, he, h1.1, h1.2⟩) n li a w (Region.free_spec hi hf) (by simpa using hr) hy hS (fun _ => hS) (.inr hb) h
/-- an operation that yields its value in any world may be taken first at any time -/
theorem till_free {i : Nat} {oi : Oper} {v : Value} {n : Nat} {li : Array Bool} {a : Act} {w : World} (hi : ops[i]? = some oi)
    (hsl : Region.noSelect ops = true) (hf : Region.free md ops li i = true) (hr : (Region.ready md ops li).contains i = true)
    (hQ : ∀ c a w, Q (.panic c) (a.put oi.dst v) w → Q (.panic c) a w) (hib : i ≠ b) (hy : YieldsIf P ops (fun _ => True) oi v a) (hS : li.getD b true = false → S w)
    (h : Till P md ops Q S b n (li.setIfInBounds i true) (a.put oi.dst v) w) : Till P md ops Q S b (n + 1) li a w :=
  till_first hi (Region.noSelect_spec hsl) hQ hib (fun _ => True) (.inl fun _ => trivial) n li a w (Region.free_spec hi hf) (by simpa using hr) hy trivial hS (.inl fun _ => trivial) h
def AllT (P : Program) (md : Region.Mode) (ops : Array Oper) (Q : Exit → Act → World → Prop) (S : World → Prop) (b : Nat) (n : Nat) (li : Array Bool) (a : Act) (w : World) (rs : List Nat) : Prop :=
  ∀ i ∈ rs, wpOp P ops Q i (fun a' w' => ((li.setIfInBounds i true).getD b true = false → S w') ∧ Till P md ops Q S b n (li.setIfInBounds i true) a' w') a w
theorem AllT.nil {n : Nat} {li : Array Bool} {a : Act} {w : World} : AllT P md ops Q S b n li a w [] := fun _ h => by cases h
/-- b has not come up: S is to be shown behind the operation -/
theorem AllT.cons {n : Nat} {li : Array Bool} {a : Act} {w : World} {i : Nat} {o : Oper} {rs : List Nat} (ho : ops[i]? = some o)
    (h : ∀ K' : Act → World → Prop, Shut (∀ a w, S w → (S w → Till P md ops Q S b n (li.setIfInBounds i true) a w) → K' a w) → if Region.wanted o (yielded ops a.tmps) = true then Oper.wp P o a w K' Q else K' (a.put o.dst undef) w)
    (hs : AllT P md ops Q S b n li a w rs) : AllT P md ops Q S b n li a w (i :: rs) := fun j hj => by
  rcases List.mem_cons.1 hj with rfl | hj
  · exact wpOp_step ho (fun K' hK => h K' (fun a w hS hW => hK a w ⟨fun _ => hS, hW hS⟩))
  · exact hs j hj
/-- b comes up, or has: nothing is to be shown of the world -/
theorem AllT.past {n : Nat} {li : Array Bool} {a : Act} {w : World} {i : Nat} {o : Oper} {rs : List Nat} (ho : ops[i]? = some o) (hb : (li.setIfInBounds i true).getD b true = true)
    (h : ∀ K' : Act → World → Prop, Shut (∀ a w, True → (True → Till P md ops Q S b n (li.setIfInBounds i true) a w) → K' a w) → if Region.wanted o (yielded ops a.tmps) = true then Oper.wp P o a w K' Q else K' (a.put o.dst undef) w)
    (hs : AllT P md ops Q S b n li a w rs) : AllT P md ops Q S b n li a w (i :: rs) := fun j hj => by
  rcases List.mem_cons.1 hj with rfl | hj
  · exact wpOp_step ho (fun K' hK => h K' (fun a w _ hW => hK a w ⟨fun h0 => (by rw [hb] at h0; cases h0), hW trivial⟩))
  · exact hs j hj
theorem till_ready {rs : List Nat} {n : Nat} {li : Array Bool} {a : Act} {w : World} (hr : Region.ready md ops li = rs) (hne : rs ≠ [])
    (h : AllT P md ops Q S b n li a w rs) : Till P md ops Q S b (n + 1) li a w := ⟨fun h0 => absurd (hr ▸ h0) hne, hr ▸ h⟩
theorem till_done {li : Array Bool} {a : Act} {w : World} (hr : Region.ready md ops li = []) (h : Q .normal a w) : ∀ n, Till P md ops Q S b n li a w
  | 0 => ⟨hr, h⟩
  | _ + 1 => ⟨fun _ => h, by rw [hr]; simp⟩
theorem wp_region_till {id : Nat} {a : Act} {w : World} (b : Nat) (hm : P.follows .mixedOrders = true) (hS : S w.drew)
    (h : S w.drew → Till P .any ops Q S b ops.size (Array.replicate ops.size false) a w.drew) : (Code.region id ops true).wp P Q a w :=
  wp_region_any hm (till_any _ _ _ _ (h hS))
end
end Go.Proofs.Ytmgdoglnckkobaa.Rb
namespace Go.Proofs.Ytmgdoglnckkobaa.Ms
open Go.ChangeShapes Go.WideShapes Go.RowKit Wo Sr Wi
set_option linter.unusedVariables false
theorem results_m {fn : Func} {p : Tmp} (h : fn.results = #[.cell p 54]) (tmps : Array Value) (w : World) (g : Nat) (a b c : Value)
    (hp : tmps.getD p undef = .pointer (some ⟨g, 0, none⟩)) (hg : Bk w g 54 #[a, b, c]) : (results fn tmps).run Try.prog w = .ok (.agg #[a, b, c]) w := by
  have hp' : tmps[p]?.getD undef = .pointer (some ⟨g, 0, none⟩) := by simpa using hp
  have hl := run_loadVar_row (P := Try.prog) w g 54 54 #[a, b, c] (0, 0) _ hg Try.underlying54 rfl (by kernel_rfl)
  simp [results, h, hp', asAddr, hl]
def SomeMv (q : Nat) (w : World) (e : Ending) (w' : World) : Prop := ∃ k b g, e = .returned (.agg #[.int .i64 k, .int .i64 b, .int .i64 g]) ∧ Mv k b g ∧ Ok w' q ∧ Ch q w w'
set_option maxHeartbeats 4000000 in
set_option maxRecDepth 100000 in
theorem measure_any (q : Nat) (w : World) (h : Ok w q) : Calls Try.prog 98 #[.pointer (some ⟨q, 0, none⟩)] w (SomeMv q w) := by
  have HGB := Lib.hid h.lt
  have HO0 := Lib.hid h
  clear h
  go_enter Try.func98, Try.ntmps98
  go_wp2_with fail
  go_at_call 47
  refine (range_any q 1 5 (by decide) (by decide) (by decide) _ (HO0.out.bel (Bel.rf.al _))).mono ?_
  rintro e w1 ⟨k, rfl, k0, k1, ho, hc⟩
  have HO1 := Lib.hid ho
  have HC1 : Hid (Ch q w w1) := (Ch.of_bel (Bel.rf.al _)).tr hc
  have HR1 : Hid (Bk w1 w.heap.size 54 #[.int .i64 0, .int .i64 0, .int .i64 0]) := hc.bk (Bk.nw _ _ _) (by have := HGB.out; omega)
  clear ho hc
  rcases (by omega : k = 1 ∨ k = 2 ∨ k = 3 ∨ k = 4 ∨ k = 5) with rfl | rfl | rfl | rfl | rfl
  · have r0 : w1.cell? ⟨w.heap.size, 0, none⟩ = some (.int .i64 0) := HR1.out.cell 0
    have r1 : w1.cell? ⟨w.heap.size, 1, none⟩ = some (.int .i64 0) := HR1.out.cell 1
    have r2 : w1.cell? ⟨w.heap.size, 2, none⟩ = some (.int .i64 0) := HR1.out.cell 2
    have f0 := HR1.out.fr 0
    have f1 := HR1.out.fr 1
    have f2 := HR1.out.fr 2
    have lt0 : w.heap.size < w1.heap.size := HR1.out.lt
    go_wp2
    have HBF : Bk ((((w1.setCell ⟨w.heap.size, 0, none⟩ (.int .i64 1)).setCell ⟨w.heap.size, 1, none⟩ (.int .i64 0)).setCell ⟨w.heap.size, 2, none⟩ (.int .i64 0)).alloc (.cells #[.int .i64 1, .int .i64 0, .int .i64 0] 54)) w.heap.size 54 #[.int .i64 1, .int .i64 0, .int .i64 0] := (((HR1.out.st 0 _).st 1 _).st 2 _).al _
    exact bodyPost_ret (v := .agg #[.int .i64 1, .int .i64 0, .int .i64 0]) (results_m Try.results98 _ _ _ _ _ _ rfl HBF) rfl ⟨1, 0, 0, rfl, .inl ⟨.inl rfl, rfl, rfl⟩, ((((HO1.out.st HGB.out _).st HGB.out _).st HGB.out _).bel (Bel.rf.al _)), ((((HC1.out.st2 (Nat.le_refl _) _).st2 (Nat.le_refl _) _).st2 (Nat.le_refl _) _).tr (Ch.of_bel (Bel.rf.al _)))⟩
  · have r0 : w1.cell? ⟨w.heap.size, 0, none⟩ = some (.int .i64 0) := HR1.out.cell 0
    have r1 : w1.cell? ⟨w.heap.size, 1, none⟩ = some (.int .i64 0) := HR1.out.cell 1
    have r2 : w1.cell? ⟨w.heap.size, 2, none⟩ = some (.int .i64 0) := HR1.out.cell 2
    have f0 := HR1.out.fr 0
    have f1 := HR1.out.fr 1
    have f2 := HR1.out.fr 2
    have lt0 : w.heap.size < w1.heap.size := HR1.out.lt
    go_wp2
    have HBF : Bk ((((w1.setCell ⟨w.heap.size, 0, none⟩ (.int .i64 2)).setCell ⟨w.heap.size, 1, none⟩ (.int .i64 0)).setCell ⟨w.heap.size, 2, none⟩ (.int .i64 0)).alloc (.cells #[.int .i64 2, .int .i64 0, .int .i64 0] 54)) w.heap.size 54 #[.int .i64 2, .int .i64 0, .int .i64 0] := (((HR1.out.st 0 _).st 1 _).st 2 _).al _
    exact bodyPost_ret (v := .agg #[.int .i64 2, .int .i64 0, .int .i64 0]) (results_m Try.results98 _ _ _ _ _ _ rfl HBF) rfl ⟨2, 0, 0, rfl, .inl ⟨.inr (.inl rfl), rfl, rfl⟩, ((((HO1.out.st HGB.out _).st HGB.out _).st HGB.out _).bel (Bel.rf.al _)), ((((HC1.out.st2 (Nat.le_refl _) _).st2 (Nat.le_refl _) _).st2 (Nat.le_refl _) _).tr (Ch.of_bel (Bel.rf.al _)))⟩
  · have r0 : w1.cell? ⟨w.heap.size, 0, none⟩ = some (.int .i64 0) := HR1.out.cell 0
    have r1 : w1.cell? ⟨w.heap.size, 1, none⟩ = some (.int .i64 0) := HR1.out.cell 1
    have r2 : w1.cell? ⟨w.heap.size, 2, none⟩ = some (.int .i64 0) := HR1.out.cell 2
    have f0 := HR1.out.fr 0
    have f1 := HR1.out.fr 1
    have f2 := HR1.out.fr 2
    have lt0 : w.heap.size < w1.heap.size := HR1.out.lt
    go_wp2
    have HBF : Bk ((((w1.setCell ⟨w.heap.size, 0, none⟩ (.int .i64 3)).setCell ⟨w.heap.size, 1, none⟩ (.int .i64 0)).setCell ⟨w.heap.size, 2, none⟩ (.int .i64 0)).alloc (.cells #[.int .i64 3, .int .i64 0, .int .i64 0] 54)) w.heap.size 54 #[.int .i64 3, .int .i64 0, .int .i64 0] := (((HR1.out.st 0 _).st 1 _).st 2 _).al _
    exact bodyPost_ret (v := .agg #[.int .i64 3, .int .i64 0, .int .i64 0]) (results_m Try.results98 _ _ _ _ _ _ rfl HBF) rfl ⟨3, 0, 0, rfl, .inl ⟨.inr (.inr rfl), rfl, rfl⟩, ((((HO1.out.st HGB.out _).st HGB.out _).st HGB.out _).bel (Bel.rf.al _)), ((((HC1.out.st2 (Nat.le_refl _) _).st2 (Nat.le_refl _) _).st2 (Nat.le_refl _) _).tr (Ch.of_bel (Bel.rf.al _)))⟩
  · have HA1 : Hid (Ok (w1.alloc (.cells #[.int .i64 4, .int .i64 0, .int .i64 0] 54)) q) := HO1.out.bel (Bel.rf.al _)
    go_wp2_with fail
    go_at_call 46
    refine (pick_any q _ [0, 1, 2, 3, 5, 32] 6 (by rfl) (by decide) (by decide) (Nat.ne_of_gt (Nat.lt_of_lt_of_le HGB.out (Nat.le_trans HC1.out.sz (Nat.le_succ _)))) _ (HA1.out.bel (Bel.rf.al _)) (lst_new _ _ _ _ (by rfl) _ (by simp))).mono ?_
    rintro e w2 ⟨x, rfl, hx, ho, hc⟩
    have hxr : 0 ≤ x ∧ x ≤ 32 := by simp at hx; omega
    obtain ⟨x0, x1⟩ := hxr
    have HR2 := hc.bk ((HR1.out.al (.cells #[.int .i64 4, .int .i64 0, .int .i64 0] 54)).al (.cells _ _)) (by have := HGB.out; omega)
    have HM2 : Bk w2 w1.heap.size 54 #[.int .i64 4, .int .i64 0, .int .i64 0] := hc.bk ((Bk.nw _ _ _).al _) (by have := HGB.out; have := HC1.out.sz; omega)
    have HO2 := Lib.hid ho
    have HC2 : Hid (Ch q w w2) := HC1.out.tr ((Ch.of_bel ((Bel.rf.al _).al _)).tr hc)
    have HSZ := Lib.hid HC1.out.sz
    have m0 : w2.cell? ⟨w1.heap.size, 0, none⟩ = some (.int .i64 4) := HM2.cell 0
    have m1 : w2.cell? ⟨w1.heap.size, 1, none⟩ = some (.int .i64 0) := HM2.cell 1
    have m2 : w2.cell? ⟨w1.heap.size, 2, none⟩ = some (.int .i64 0) := HM2.cell 2
    have n0 := HM2.fr 0
    have n1 := HM2.fr 1
    have n2 := HM2.fr 2
    have r0 : w2.cell? ⟨w.heap.size, 0, none⟩ = some (.int .i64 0) := HR2.cell 0
    have r1 : w2.cell? ⟨w.heap.size, 1, none⟩ = some (.int .i64 0) := HR2.cell 1
    have r2 : w2.cell? ⟨w.heap.size, 2, none⟩ = some (.int .i64 0) := HR2.cell 2
    have f0 := HR2.fr 0
    have f1 := HR2.fr 1
    have f2 := HR2.fr 2
    have lt0 : w.heap.size < w2.heap.size := HR2.lt
    have hne : w.heap.size ≠ w1.heap.size := by have := HR1.out.lt; omega
    have HR2H := Lib.hid HR2
    clear ho hc hx HR2 HM2
    go_wp2
    have HBF : Bk ((((w2.setCell ⟨w1.heap.size, 1, none⟩ (.int .i64 x)).setCell ⟨w.heap.size, 0, none⟩ (.int .i64 4)).setCell ⟨w.heap.size, 1, none⟩ (.int .i64 x)).setCell ⟨w.heap.size, 2, none⟩ (.int .i64 0)) w.heap.size 54 #[.int .i64 4, .int .i64 x, .int .i64 0] := (((Bk.far HR2H.out hne _).st 0 _).st 1 _).st 2 _
    exact bodyPost_ret (v := .agg #[.int .i64 4, .int .i64 x, .int .i64 0]) (results_m Try.results98 _ _ _ _ _ _ rfl HBF) rfl ⟨4, x, 0, rfl, .inr (.inl ⟨rfl, x0, x1, rfl⟩), ((((HO2.out.st (Nat.lt_of_lt_of_le HGB.out HSZ.out) _).st HGB.out _).st HGB.out _).st HGB.out _), ((((HC2.out.st2 HSZ.out _).st2 (Nat.le_refl _) _).st2 (Nat.le_refl _) _).st2 (Nat.le_refl _) _)⟩
  · have HA1 : Hid (Ok (w1.alloc (.cells #[.int .i64 5, .int .i64 0, .int .i64 0] 54)) q) := HO1.out.bel (Bel.rf.al _)
    go_wp2_with fail
    go_at_call 46
    refine (pick_any q _ [0, 0, 1, -3, 20, -1000] 6 (by rfl) (by decide) (by decide) (Nat.ne_of_gt (Nat.lt_of_lt_of_le HGB.out (Nat.le_trans HC1.out.sz (Nat.le_succ _)))) _ (HA1.out.bel (Bel.rf.al _)) (lst_new _ _ _ _ (by rfl) _ (by simp))).mono ?_
    rintro e w2 ⟨x, rfl, hx, ho, hc⟩
    have hxr : -1000 ≤ x ∧ x ≤ 1000 := by simp at hx; omega
    obtain ⟨x0, x1⟩ := hxr
    have HR2 := hc.bk ((HR1.out.al (.cells #[.int .i64 5, .int .i64 0, .int .i64 0] 54)).al (.cells _ _)) (by have := HGB.out; omega)
    have HM2 : Bk w2 w1.heap.size 54 #[.int .i64 5, .int .i64 0, .int .i64 0] := hc.bk ((Bk.nw _ _ _).al _) (by have := HGB.out; have := HC1.out.sz; omega)
    have HO2 := Lib.hid ho
    have HC2 : Hid (Ch q w w2) := HC1.out.tr ((Ch.of_bel ((Bel.rf.al _).al _)).tr hc)
    have HSZ := Lib.hid HC1.out.sz
    have m0 : w2.cell? ⟨w1.heap.size, 0, none⟩ = some (.int .i64 5) := HM2.cell 0
    have m1 : w2.cell? ⟨w1.heap.size, 1, none⟩ = some (.int .i64 0) := HM2.cell 1
    have m2 : w2.cell? ⟨w1.heap.size, 2, none⟩ = some (.int .i64 0) := HM2.cell 2
    have n0 := HM2.fr 0
    have n1 := HM2.fr 1
    have n2 := HM2.fr 2
    have r0 : w2.cell? ⟨w.heap.size, 0, none⟩ = some (.int .i64 0) := HR2.cell 0
    have r1 : w2.cell? ⟨w.heap.size, 1, none⟩ = some (.int .i64 0) := HR2.cell 1
    have r2 : w2.cell? ⟨w.heap.size, 2, none⟩ = some (.int .i64 0) := HR2.cell 2
    have f0 := HR2.fr 0
    have f1 := HR2.fr 1
    have f2 := HR2.fr 2
    have lt0 : w.heap.size < w2.heap.size := HR2.lt
    have hne : w.heap.size ≠ w1.heap.size := by have := HR1.out.lt; omega
    have HR2H := Lib.hid HR2
    clear ho hc hx HR2 HM2
    go_wp2
    have HBF : Bk ((((w2.setCell ⟨w1.heap.size, 2, none⟩ (.int .i64 x)).setCell ⟨w.heap.size, 0, none⟩ (.int .i64 5)).setCell ⟨w.heap.size, 1, none⟩ (.int .i64 0)).setCell ⟨w.heap.size, 2, none⟩ (.int .i64 x)) w.heap.size 54 #[.int .i64 5, .int .i64 0, .int .i64 x] := (((Bk.far HR2H.out hne _).st 0 _).st 1 _).st 2 _
    exact bodyPost_ret (v := .agg #[.int .i64 5, .int .i64 0, .int .i64 x]) (results_m Try.results98 _ _ _ _ _ _ rfl HBF) rfl ⟨5, 0, x, rfl, .inr (.inr ⟨rfl, rfl, x0, x1⟩), ((((HO2.out.st (Nat.lt_of_lt_of_le HGB.out HSZ.out) _).st HGB.out _).st HGB.out _).st HGB.out _), ((((HC2.out.st2 HSZ.out _).st2 (Nat.le_refl _) _).st2 (Nat.le_refl _) _).st2 (Nat.le_refl _) _)⟩
end Go.Proofs.Ytmgdoglnckkobaa.Ms
namespace Go.Proofs.Ytmgdoglnckkobaa.Wi
open Go.ChangeShapes Go.WideShapes Go.RowKit Wo Sr
set_option linter.unusedVariables false
theorem bel_grown {w a b : World} {row : Option Nat} (h : Bel w a) (hg : a.grownBy b row) (hr : ∀ q, row = some q → w.heap.size ≤ q) : Bel w b := Below.grown h hg h.size hr
theorem own_base {w : World} {base size n : Nat} {e : TypeId} {v : Value} {xs : List Value} (h : w.ownsRow base e size v n xs) : ∀ q, v.ownBlock = some q → base ≤ q := fun q e => (h.lt q e).1
theorem zs_one (M : List Int) : ∀ u ∈ zs M, u.oneCell' = true := by
  intro u hu
  obtain ⟨x, _, rfl⟩ := List.mem_map.1 hu
  rfl
theorem zi_news {w : World} {ad : Addr} {m : Nat} {M : List Int} (hz : Zi w (some ad) m M) : ∀ j u, (zs M)[j]? = some u → w.cell? (ad.add j) = some u := by
  intro j u hu
  have hj : j < M.length := by
    rcases Nat.lt_or_ge j M.length with h | h
    · exact h
    · rw [List.getElem?_eq_none (by rw [zs_len]; exact h)] at hu; cases hu
  obtain ⟨ad', e, _, hcc⟩ := hz.2 (by have := hz.1; omega)
  cases e
  rw [zs_at hj] at hu
  cases hu
  exact hcc j (by have := hz.1; omega)
theorem run_app (w : World) (ty : TypeId) (base : Nat) (v : Value) (n : Nat) (L : List Int) (hown : w.ownsRow base 3 1 v n (zs L)) (ad : Addr) (m c : Nat) (M : List Int) (hz : Zi w (some ad) m M) (hn : n + m ≤ 1000000) (hbase : base ≤ w.heap.size) :
    ∃ v' w', (Builtin.append_ #[22, 22] ty #[v, .slice (some ad) m c]).run Try.prog w = .ok v' w' ∧ w'.ownsRow base 3 1 v' (n + m) (zs (L ++ M)) ∧ w.grownBy w' v.ownBlock ∧ (v'.ownBlock = v.ownBlock ∨ v'.ownBlock = some w.heap.size) := by
  obtain ⟨i0, hi0, hz0, hz1, hz2⟩ := info_parts info_int
  obtain ⟨v', w', hr, h2, h3, _, h5⟩ := run_append_own_at (P := Try.prog) w base 22 ty 3 i0 (.int .i64 0) 1 8 Try.underlying22 hi0 hz0 hz1 hz2 (by rfl) (by omega) v n (zs L) hown ad m c (zs M) (by rw [zs_len, hz.1]; omega) (zi_news hz) (zs_one M) (by unfold maxLen; omega) (by omega) hbase
  exact ⟨v', w', hr, by rw [zs_app]; exact h2, h3, h5⟩
theorem wp_app (w : World) {o : Oper} {a : Act} {K : Act → World → Prop} {Q : Exit → Act → World → Prop} (s x : Operand)
    (ho : o.op = .call { callee := .builtin .append, args := #[s, x], argTypes := #[22, 22] })
    (base : Nat) (v : Value) (n : Nat) (L : List Int) (hs : a.eval s = v) (hown : w.ownsRow base 3 1 v n (zs L)) (ad : Addr) (m c : Nat) (M : List Int) (hx : a.eval x = .slice (some ad) m c) (hz : Zi w (some ad) m M) (hn : n + m ≤ 1000000) (hbase : base ≤ w.heap.size)
    (h : ∀ v' w', w'.ownsRow base 3 1 v' (n + m) (zs (L ++ M)) → w.grownBy w' v.ownBlock → (v'.ownBlock = v.ownBlock ∨ v'.ownBlock = some w.heap.size) → K (a.put o.dst v') w') : o.wp Try.prog a w K Q := by
  obtain ⟨v', w', hr, h2, h3, h5⟩ := run_app w o.type base v n L hown ad m c M hz hn hbase
  unfold Oper.wp execOp
  simp only [ho, resolve, invoke, builtin, Sem.run_bind, Sem.run_pure, Result.andThen_ok, List.map_toArray, List.map_cons, List.map_nil, hs, hx, hr]
  exact h v' w' h2 h3 h5
theorem step_app (w : World) {ops : Array Oper} {o : Oper} {a : Act} {K : Act → World → Prop} {Q : Exit → Act → World → Prop} {E : Prop} (hgd : o.guard = none) (s x : Operand)
    (ho : o.op = .call { callee := .builtin .append, args := #[s, x], argTypes := #[22, 22] })
    (base : Nat) (v : Value) (n : Nat) (L : List Int) (hs : a.eval s = v) (hown : w.ownsRow base 3 1 v n (zs L)) (ad : Addr) (m c : Nat) (M : List Int) (hx : a.eval x = .slice (some ad) m c) (hz : Zi w (some ad) m M) (hn : n + m ≤ 1000000) (hbase : base ≤ w.heap.size)
    (h : ∀ v' w', w'.ownsRow base 3 1 v' (n + m) (zs (L ++ M)) → w.grownBy w' v.ownBlock → (v'.ownBlock = v.ownBlock ∨ v'.ownBlock = some w.heap.size) → K (a.put o.dst v') w') :
    if Region.wanted o (yielded ops a.tmps) = true then Oper.wp Try.prog o a w K Q else E := by
  have hw : Region.wanted o (yielded ops a.tmps) = true := by simp [Region.wanted, hgd]
  rw [if_pos hw]
  exact wp_app w s x ho base v n L hs hown ad m c M hx hz hn hbase h
theorem list_app (w : World) {ops : Array Oper} {rest : List Oper} {o : Oper} {a : Act} {Q : Exit → Act → World → Prop} (hgd : o.guard = none) (s x : Operand)
    (ho : o.op = .call { callee := .builtin .append, args := #[s, x], argTypes := #[22, 22] })
    (base : Nat) (v : Value) (n : Nat) (L : List Int) (hs : a.eval s = v) (hown : w.ownsRow base 3 1 v n (zs L)) (ad : Addr) (m c : Nat) (M : List Int) (hx : a.eval x = .slice (some ad) m c) (hz : Zi w (some ad) m M) (hn : n + m ≤ 1000000) (hbase : base ≤ w.heap.size)
    (h : ∀ v' w', w'.ownsRow base 3 1 v' (n + m) (zs (L ++ M)) → w.grownBy w' v.ownBlock → (v'.ownBlock = v.ownBlock ∨ v'.ownBlock = some w.heap.size) → wpList Try.prog ops Q rest (a.put o.dst v') w') : wpList Try.prog ops Q (o :: rest) a w :=
  wpList_plain hgd fun _ hK => wp_app w s x ho base v n L hs hown ad m c M hx hz hn hbase fun v' w' h2 h3 h5 => hK _ _ (h v' w' h2 h3 h5)
theorem own_made {base : Nat} (W : World) (q : Nat) (hq : W.heap.size = q) (hb : base ≤ q) : (W.alloc (.cells #[] 3)).ownsRow base 3 1 (.slice (some ⟨q, 0, none⟩) 0 0) 0 (zs []) := by
  subst hq
  exact World.ownsRow_made (base := base) (e := 3) (size := 1) W #[] 0 hb (by unfold maxLen; omega) rfl
theorem zi_none {W : World} {A : Option Addr} : Zi W A 0 [] := ⟨rfl, fun h => by omega⟩
theorem zi_part {w : World} {h N : Nat} {Z : List Int} (hz : Zi w (some ⟨h, 0, none⟩) N Z) (i n : Nat) (hi : i + n ≤ N) : Zi w (some ⟨h, i, none⟩) n ((Z.drop i).take n) := by
  have hl := hz.1
  refine ⟨by simp; omega, fun hn => ?_⟩
  obtain ⟨ad, e, hx, _⟩ := hz.2 (by omega)
  cases e
  refine ⟨_, rfl, hx, fun j hj => ?_⟩
  have := hz.at (i + j) (by omega)
  rw [show (⟨h, i, none⟩ : Addr).add j = ⟨h, i + j, none⟩ by unfold Addr.add; split <;> simp_all, this]
  simp [List.getD_eq_getElem?_getD, hj]
end Go.Proofs.Ytmgdoglnckkobaa.Wi
namespace Go.Proofs.Ytmgdoglnckkobaa.Wd
open Go.ChangeShapes Go.WideShapes Go.RowKit Wo Sr Wi Ms
set_option linter.unusedVariables false
set_option linter.unusedSimpArgs false
theorem cv_snoc {C : List Int} {y : Int} (h : Cv C) (hl : C.length < 15) (hy : ∀ j, j < C.length → C.getD j 0 < y) (y1 : -2000 ≤ y) (y2 : y ≤ 2000) : Cv (C ++ [y]) := by
  have hg : ∀ j, j < C.length + 1 → (C ++ [y]).getD j 0 = if j < C.length then C.getD j 0 else y := fun j hj => by
    rw [List.getD_eq_getElem?_getD, List.getD_eq_getElem?_getD]
    by_cases k : j < C.length
    · rw [if_pos k, List.getElem?_append_left k]
    · rw [if_neg k, List.getElem?_append_right (by omega), show j - C.length = 0 by omega]; rfl
  have hn : (C ++ [y]).length = C.length + 1 := by simp
  refine ⟨by omega, fun i hi => ?_, fun i hi => ?_⟩
  · rw [hn] at hi
    rw [hg i hi]
    split
    · exact h.2.1 i (by assumption)
    · exact ⟨y1, y2⟩
  · rw [hn] at hi
    rw [hg i (by omega), hg (i + 1) hi, if_pos (by omega)]
    split
    · exact h.2.2 i (by assumption)
    · exact hy i (by omega)
theorem cq_top {C : List Int} {k : Nat} {S : Int} (hl : C.length = k) (h : ∀ j, j < k → C.getD j 0 < S) : ∀ j, j < k + 1 → (C ++ [S]).getD j 0 ≤ S := fun j hj => by
  rw [List.getD_eq_getElem?_getD]
  rcases Nat.lt_or_ge j k with q | q
  · rw [List.getElem?_append_left (by omega), ← List.getD_eq_getElem?_getD]; exact Int.le_of_lt (h j q)
  · rw [List.getElem?_append_right (by omega), show j - C.length = 0 by omega]; exact Int.le_refl _
theorem cv_nil : Cv [] := ⟨by simp, fun i hi => by simp at hi, fun i hi => by simp at hi⟩
def SomeCuts (g : Nat) (w : World) (e : Ending) (w' : World) : Prop := ∃ v k C, e = .returned v ∧ w'.ownsRow w.heap.size 3 1 v k (zs C) ∧ C.length = k ∧ Cv C ∧ Ok w' g ∧ Ch g w w'
/-- the cuts so far -/
structure Cq (g base N : Nat) (w wr : World) (v : Value) (x : Int) (k : Nat) (C : List Int) : Prop where
  le : k ≤ N
  own : wr.ownsRow base 3 1 v k (zs C)
  len : C.length = k
  cv : Cv C
  top : ∀ j, j < k → C.getD j 0 ≤ x
  lo : -400 ≤ x
  hi : x ≤ 60 * (k : Int)
  ok : Ok wr g
  ch : Ch g w wr
  sz : base ≤ wr.heap.size
set_option maxHeartbeats 8000000 in
set_option maxRecDepth 100000 in
theorem cuts_any (g : Nat) (w : World) (h : Ok w g) : Calls Try.prog 99 #[.pointer (some ⟨g, 0, none⟩)] w (SomeCuts g w) := by
  have HGB := Lib.hid h.lt
  have HO0 := Lib.hid h
  clear h
  go_enter Try.func99, Try.ntmps99
  go_wp2_with fail
  go_at_call 46
  refine (pick_any g w.heap.size [-400, -60, -10, -3, 0] 5 (by rfl) (by decide) (by decide) (by have := HGB.out; omega) _ (HO0.out.bel (Bel.rf.al _)) (lst_new _ _ _ _ (by rfl) _ rfl)).mono ?_
  rintro e w1 ⟨x, rfl, hx, ho, hc⟩
  have hx1 : -400 ≤ x ∧ x ≤ 0 := by simp at hx; omega
  have HO1 := Lib.hid ho
  have HC1 : Hid (Ch g w w1) := (Ch.rf.al _).tr hc
  have HX1 := Lib.hid hx1
  clear ho hc hx hx1
  go_wp2_with fail
  go_at_call 46
  refine (pick_any g w1.heap.size [1, 3, 10, 60] 4 (by rfl) (by decide) (by decide) (by have := HO1.out.lt; omega) _ (HO1.out.bel (Bel.rf.al _)) (lst_new _ _ _ _ (by rfl) _ rfl)).mono ?_
  rintro e w2 ⟨st, rfl, hst, ho, hc⟩
  have hs1 : 1 ≤ st ∧ st ≤ 60 := by simp at hst; omega
  obtain ⟨st0, st1⟩ := hs1
  have HO2 := Lib.hid ho
  have HC2 : Hid (Ch g w w2) := (HC1.out.al _).tr hc
  clear ho hc hst
  go_wp2_with fail
  go_at_call 10
  refine (n_any g 16 (by decide) (by decide) _ HO2.out).mono ?_
  rintro e w3 ⟨nn, rfl, n0, n1, ho, hc⟩
  obtain ⟨N, rfl⟩ := Int.eq_ofNat_of_zero_le n0
  have HO3 := Lib.hid ho
  have HC3 : Hid (Ch g w w3) := HC2.out.tr hc
  have N15 : N ≤ 15 := by omega
  clear ho hc n0 n1
  have HR0 : Hid (Cq g w.heap.size N w w3 (.slice none 0 0) x 0 []) := ⟨by omega, World.ownsRow_nil _ _ _ _, rfl, cv_nil, fun j hj => by omega, HX1.out.1, by have := HX1.out.2; omega, HO3.out, HC3.out, HC3.out.sz⟩
  go_wp2
  go_loopw [3, 4, 6] (fun s3 s4 s6 wr => ∃ (k : Nat) (C : List Int) (y i : Int) (V : World) (u : Value), V = wr ∧ u = s3 ∧ s4 = .int .i64 y ∧ s6 = .int .i64 i ∧ i = (N : Int) - (k : Int) ∧ Cq g w.heap.size N w wr s3 y k C) (fun _ _ s6 _ => (intOf s6).toNat)
  case atStart => exact ⟨0, [], x, _, _, _, rfl, rfl, rfl, rfl, by omega, HR0.out⟩
  case round =>
    clear HR0
    obtain ⟨k, C, y, i, wr, u, hwr, hu, rfl, rfl, hi, hq⟩ := hrel
    subst hwr
    subst hu
    have HQ := Lib.hid hq
    have hkN := hq.le
    have y0 := hq.lo
    have y1 := hq.hi
    clear hq
    rcases Nat.lt_or_ge k N with hlt | hge
    · have i0 : 0 < i := by omega
      have i1 : i ≤ 15 := by omega
      have HI := Lib.hid hi
      have y2 : y ≤ 900 := by omega
      clear hi y1
      go_wp2_with fail
      go_at_call 47
      refine (range_any g 1 st (by decide) (by omega) (by omega) _ HQ.out.ok).mono ?_
      rintro e w6 ⟨d, rfl, d0, d1, ho, hc⟩
      have HG6 := Lib.hid ho
      have HC6 := Lib.hid hc
      obtain ⟨S, hS⟩ : ∃ S, y + d = S := ⟨_, rfl⟩
      have wS : wrap64 S = S := IntWalk.wrap64_in _ (by omega)
      have wS2 : IntKind.i64.wrap S = S := IntWalk.i64_in _ (by omega)
      have S0 : -400 ≤ S := by omega
      have S1 : S ≤ 960 := by omega
      have HS2 : Hid (∀ j, j < k → C.getD j 0 < S) := fun j hj => by have := HQ.out.top j hj; omega
      have HS3 : Hid (S ≤ 60 * ((k + 1 : Nat) : Int)) := by have := HQ.out.hi; show S ≤ _; omega
      have HOW : Hid (w6.ownsRow w.heap.size 3 1 u k (zs C)) := own_ch HQ.out.own HC6.out HGB.out
      have HSZ : Hid (w.heap.size ≤ w6.heap.size) := (HQ.out.ch.tr HC6.out).sz
      have HB7 : Hid (Bk (w6.alloc (.cells #[.int .i64 S] 3)) w6.heap.size 3 #[.int .i64 S]) := Bk.nw _ _ _
      have HK1 : Hid (k + 1 ≤ 1000000) := (by omega : _ ≤ _)
      clear ho hc d0 d1
      go_wp2_with (at_builtin; refine list_app _ rfl _ _ rfl w.heap.size u k C rfl (own_bel HOW.out (by repeat (first | exact Bel.rf | (with_reducible refine Bel.drwN ?_ _) | (with_reducible refine Bel.drw ?_) | (with_reducible refine Bel.al ?_ _)))) ⟨w6.heap.size, 0, none⟩ 1 1 [S] rfl (zi_bk (L := [S]) (HB7.out.bel (by repeat (first | exact Bel.rf | (with_reducible refine Bel.drwN ?_ _) | (with_reducible refine Bel.drw ?_) | (with_reducible refine Bel.al ?_ _)))) 1 rfl) HK1.out (by have := HSZ.out; simp; omega) ?_; intro v8 w8 h8 hg8 _; have HQ8 : Hid (Cq g w.heap.size N w w8 v8 S (k + 1) (C ++ [S])) := ⟨hlt, h8, by rw [List.length_append, HQ.out.len]; rfl, cv_snoc HQ.out.cv (by rw [HQ.out.len]; omega) (by rw [HQ.out.len]; exact HS2.out) (by omega) (by omega), cq_top HQ.out.len HS2.out, S0, HS3.out, ok_grown (HG6.out.bel (by repeat (first | exact Bel.rf | (with_reducible refine Bel.drwN ?_ _) | (with_reducible refine Bel.drw ?_) | (with_reducible refine Bel.al ?_ _)))) hg8 (fun b e => by have := (HOW.out.lt b e).1; have := HGB.out; omega), ch_grown ((HQ.out.ch.tr HC6.out).tr (Ch.of_bel (by repeat (first | exact Bel.rf | (with_reducible refine Bel.drwN ?_ _) | (with_reducible refine Bel.drw ?_) | (with_reducible refine Bel.al ?_ _))))) hg8 (fun b e => (HOW.out.lt b e).1), by have := hg8.size; have := HSZ.out; simp at *; omega⟩; clear h8 hg8)
      go_roundw
      case rel => exact ⟨k + 1, _, S, _, _, _, rfl, rfl, rfl, rfl, by have := HI.out; omega, HQ8.out⟩
      case measure => simp [intOf]; omega
    · have i0 : ¬ 0 < i := by omega
      have i00 : i = 0 := by omega
      subst i00
      clear hi
      go_wp2
      go_ret
      exact ⟨u, k, C, rfl, HQ.out.own, HQ.out.len, HQ.out.cv, HQ.out.ok, HQ.out.ch⟩
end Go.Proofs.Ytmgdoglnckkobaa.Wd
namespace Go.Proofs.Ytmgdoglnckkobaa.Wd
open Go.ChangeShapes Go.WideShapes Go.RowKit Wo Sr Wi Ms
set_option linter.unusedVariables false
set_option linter.unusedSimpArgs false
theorem results_s {fn : Func} {p : Tmp} (h : fn.results = #[.cell p 56]) (tmps : Array Value) (w : World) (g : Nat) (a b c d e f : Value)
    (hp : tmps.getD p undef = .pointer (some ⟨g, 0, none⟩)) (hg : Bk w g 56 #[a, b, c, d, e, f]) : (results fn tmps).run Try.prog w = .ok (.agg #[a, b, c, d, e, f]) w := by
  have hp' : tmps[p]?.getD undef = .pointer (some ⟨g, 0, none⟩) := by simpa using hp
  have hl := run_loadVar_row (P := Try.prog) w g 56 56 #[a, b, c, d, e, f] (0, 0) _ hg Try.underlying56 rfl (by kernel_rfl)
  simp [results, h, hp', asAddr, hl]
theorem own_lowd {w : World} {base base' size n : Nat} {e : TypeId} {v : Value} {xs : List Value} (h : w.ownsRow base e size v n xs) (hb : base' ≤ base) : w.ownsRow base' e size v n xs :=
  ⟨h.1, h.2.imp id fun ⟨g, c, cur, h1, h2, h3⟩ => ⟨g, c, cur, h1, Nat.le_trans hb h2, h3⟩⟩
/-- a new scheme -/
def SomeSx (q : Nat) (w : World) (e : Ending) (w' : World) : Prop := ∃ k b g m n A nc cc C, e = .returned (Sx k b g m n A nc cc) ∧ Sv k b g m n C ∧ w'.ownsRow w.heap.size 3 1 (.slice A nc cc) nc (zs C) ∧ C.length = nc ∧ Ok w' q ∧ Ch q w w'
set_option maxHeartbeats 8000000 in
set_option maxRecDepth 100000 in
theorem scheme_any (q : Nat) (w : World) (h : Ok w q) : Calls Try.prog 71 #[.pointer (some ⟨q, 0, none⟩)] w (SomeSx q w) := by
  have HGB := Lib.hid h.lt
  have HO0 := Lib.hid h
  clear h
  go_enter Try.func71, Try.ntmps71
  go_wp2_with fail
  go_at_call 98
  refine (measure_any q _ (HO0.out.bel (by repeat (first | exact Bel.rf | (with_reducible refine Bel.drwN ?_ _) | (with_reducible refine Bel.drw ?_) | (with_reducible refine Bel.al ?_ _))))).mono ?_
  rintro e w1 ⟨k, b, g, rfl, hmv, ho, hc⟩
  have HO1 := Lib.hid ho
  have HC1 : Hid (Ch q w w1) := (Ch.of_bel (by repeat (first | exact Bel.rf | (with_reducible refine Bel.drwN ?_ _) | (with_reducible refine Bel.drw ?_) | (with_reducible refine Bel.al ?_ _)))).tr hc
  have HR1 : Hid (Bk w1 w.heap.size 56 #[.int .i64 0, .int .i64 0, .int .i64 0, .int .i64 0, .int .i64 0, .slice none 0 0]) := hc.bk (Bk.nw _ _ _) (by have := HGB.out; omega)
  have HMV := Lib.hid hmv
  clear ho hc hmv
  go_wp2_with fail
  go_at_call 45
  refine (length_any q _ (HO1.out.bel (by repeat (first | exact Bel.rf | (with_reducible refine Bel.drwN ?_ _) | (with_reducible refine Bel.drw ?_) | (with_reducible refine Bel.al ?_ _))))).mono ?_
  rintro e w2 ⟨M, rfl, m2, m32, ho, hc⟩
  obtain ⟨m, rfl⟩ := Int.eq_ofNat_of_zero_le (show 0 ≤ M by omega)
  have HO2 := Lib.hid ho
  have hc12 : Ch q w1 w2 := (Ch.of_bel (by repeat (first | exact Bel.rf | (with_reducible refine Bel.drwN ?_ _) | (with_reducible refine Bel.drw ?_) | (with_reducible refine Bel.al ?_ _)))).tr hc
  have HC2 : Hid (Ch q w w2) := HC1.out.tr hc12
  have HR2 : Hid (Bk w2 w.heap.size 56 #[.int .i64 0, .int .i64 0, .int .i64 0, .int .i64 0, .int .i64 0, .slice none 0 0]) := hc12.bk HR1.out (by have := HGB.out; omega)
  obtain ⟨Z, hZ⟩ : ∃ Z, min (8 : Int) (m : Int) = Z := ⟨_, rfl⟩
  have Z1 : 1 ≤ Z := by omega
  have Z8 : Z ≤ 8 := by omega
  have Zm : Z ≤ (m : Int) := by omega
  have HZZ := Lib.hid hZ
  have hZ2 : (if (m : Int) < 8 then (m : Int) else 8) = Z := by rw [← hZ]; split <;> omega
  have hZ3 : (if (8 : Int) ≤ (m : Int) then (8 : Int) else (m : Int)) = Z := by rw [← hZ]; split <;> omega
  clear ho hc hc12
  go_wp2_with fail
  go_at_call 47
  refine (range_any q 1 Z (by decide) (by omega) (by omega) _ (HO2.out.bel (by repeat (first | exact Bel.rf | (with_reducible refine Bel.drwN ?_ _) | (with_reducible refine Bel.drw ?_) | (with_reducible refine Bel.al ?_ _))))).mono ?_
  rintro e w3 ⟨N, rfl, n1, n8, ho, hc⟩
  obtain ⟨n, rfl⟩ := Int.eq_ofNat_of_zero_le (show 0 ≤ N by omega)
  have HO3 := Lib.hid ho
  have HC3 : Hid (Ch q w w3) := HC2.out.tr ((Ch.of_bel (by repeat (first | exact Bel.rf | (with_reducible refine Bel.drwN ?_ _) | (with_reducible refine Bel.drw ?_) | (with_reducible refine Bel.al ?_ _)))).tr hc)
  have hs2 : w.heap.size ≤ w2.heap.size := HC2.out.sz
  have HT3 : Hid (Bk w3 w2.heap.size 56 #[.int .i64 k, .int .i64 b, .int .i64 g, .int .i64 (m : Int), .int .i64 0, .slice none 0 0]) := hc.bk (Bk.nw _ _ _) (by have := HGB.out; omega)
  have HR3 : Hid (Bk w3 w.heap.size 56 #[.int .i64 0, .int .i64 0, .int .i64 0, .int .i64 0, .int .i64 0, .slice none 0 0]) := ((Ch.of_bel (by repeat (first | exact Bel.rf | (with_reducible refine Bel.drwN ?_ _) | (with_reducible refine Bel.drw ?_) | (with_reducible refine Bel.al ?_ _)))).tr hc).bk HR2.out (by have := HGB.out; omega)
  have HNE : Hid (w.heap.size < w2.heap.size) := HR2.out.lt
  have t4 := HT3.out.cell 4
  have f4 := HT3.out.fr 4
  simp only [List.getElem?_toArray, List.getElem?_cons_zero, List.getElem?_cons_succ] at t4
  have HSV : Hid (∀ C, Cv C → Sv k b g m n C) := fun C hC => ⟨HMV.out, by omega, by omega, by omega, by omega, by omega, hC⟩
  have HQ2 : Hid (q < w2.heap.size) := HO2.out.lt
  clear ho hc hZ2 hZ3
  go_wp2_with fail
  go_at_call 99
  refine (cuts_any q _ (HO3.out.st HQ2.out _)).mono ?_
  rintro e w5 ⟨v, nc, C, rfl, hown, hCl, hCv, ho, hc⟩
  have HT5 : Hid (Bk w5 w2.heap.size 56 #[.int .i64 k, .int .i64 b, .int .i64 g, .int .i64 (m : Int), .int .i64 (n : Int), .slice none 0 0]) := hc.bk (HT3.out.st 4 _) (by have := HQ2.out; omega)
  have HR5 : Hid (Bk w5 w.heap.size 56 #[.int .i64 0, .int .i64 0, .int .i64 0, .int .i64 0, .int .i64 0, .slice none 0 0]) := hc.bk (HR3.out.far (by have := HNE.out; show w.heap.size ≠ w2.heap.size; omega) _) (by have := HGB.out; omega)
  have HC5 : Hid (Ch q w w5) := (HC3.out.st2 hs2 _).tr hc
  have HO5 := Lib.hid ho
  have HS5 : Hid (w2.heap.size < (w3.setCell ⟨w2.heap.size, 4, none⟩ (.int .i64 (n : Int))).heap.size) := by have := HT3.out.lt; show _ < _; simpa [World.setCell] using this
  obtain ⟨A, cc, hv, _⟩ := own_any hown
  subst hv
  have HOW := Lib.hid hown
  have HCC := Lib.hid (And.intro hCl hCv)
  have u0 := HT5.out.cell 0
  have u1 := HT5.out.cell 1
  have u2 := HT5.out.cell 2
  have u3 := HT5.out.cell 3
  have u4 := HT5.out.cell 4
  have u5 := HT5.out.cell 5
  have g5 := HT5.out.fr 5
  have r0 := HR5.out.cell 0
  have r1 := HR5.out.cell 1
  have r2 := HR5.out.cell 2
  have r3 := HR5.out.cell 3
  have r4 := HR5.out.cell 4
  have r5 := HR5.out.cell 5
  have e0 := HR5.out.fr 0
  have e1 := HR5.out.fr 1
  have e2 := HR5.out.fr 2
  have e3 := HR5.out.fr 3
  have e4 := HR5.out.fr 4
  have e5 := HR5.out.fr 5
  simp only [List.getElem?_toArray, List.getElem?_cons_zero, List.getElem?_cons_succ] at u0 u1 u2 u3 u4 u5 r0 r1 r2 r3 r4 r5
  have l1 : w2.heap.size < w5.heap.size := HT5.out.lt
  have l2 : w.heap.size < w5.heap.size := HR5.out.lt
  have nwb : ¬ w.heap.size = w2.heap.size := by have := HNE.out; omega
  have nwb2 : ¬ w2.heap.size = w.heap.size := by have := HNE.out; omega
  clear hown hCl hCv ho hc t4 f4
  go_wp2
  have HBF : Bk (((((((w5.setCell ⟨w2.heap.size, 5, none⟩ (.slice A nc cc)).setCell ⟨w.heap.size, 0, none⟩ (.int .i64 k)).setCell ⟨w.heap.size, 1, none⟩ (.int .i64 b)).setCell ⟨w.heap.size, 2, none⟩ (.int .i64 g)).setCell ⟨w.heap.size, 3, none⟩ (.int .i64 (m : Int))).setCell ⟨w.heap.size, 4, none⟩ (.int .i64 (n : Int))).setCell ⟨w.heap.size, 5, none⟩ (.slice A nc cc)) w.heap.size 56 #[.int .i64 k, .int .i64 b, .int .i64 g, .int .i64 (m : Int), .int .i64 (n : Int), .slice A nc cc] := ((((((HR5.out.far (by show w.heap.size ≠ w2.heap.size; exact nwb) _).st 0 _).st 1 _).st 2 _).st 3 _).st 4 _).st 5 _
  have HOF := own_ch (own_ch HOW.out ((Ch.rf (g := w2.heap.size)).st 5 (.slice A nc cc)) HS5.out) ((((((((Ch.rf (g := w.heap.size)).st 0 (.int .i64 k)).st 1 (.int .i64 b)).st 2 (.int .i64 g)).st 3 (.int .i64 (m : Int))).st 4 (.int .i64 (n : Int))).st 5 (.slice A nc cc))) (by have := HNE.out; have := HS5.out; omega)
  exact bodyPost_ret (v := Sx k b g m n A nc cc) (results_s Try.results71 _ _ _ _ _ _ _ _ _ rfl HBF) rfl ⟨k, b, g, m, n, A, nc, cc, C, rfl, HSV.out C HCC.out.2, own_lowd HOF (by have := HNE.out; have := HS5.out; omega), HCC.out.1, (((((((HO5.out.st HQ2.out _).st HGB.out _).st HGB.out _).st HGB.out _).st HGB.out _).st HGB.out _).st HGB.out _), (((((((HC5.out.st2 hs2 _).st2 (Nat.le_refl _) _).st2 (Nat.le_refl _) _).st2 (Nat.le_refl _) _).st2 (Nat.le_refl _) _).st2 (Nat.le_refl _) _).st2 (Nat.le_refl _) _)⟩
end Go.Proofs.Ytmgdoglnckkobaa.Wd
