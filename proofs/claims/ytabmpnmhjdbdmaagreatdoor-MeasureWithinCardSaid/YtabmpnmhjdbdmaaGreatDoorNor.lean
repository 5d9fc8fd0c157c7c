/- The contracts of whole.Abs, of normal's product, gap, Product, Gap, Centred over windows. -/
import Derived.Test.YtabmpnmhjdbdmaaGreatDoorEuc0
import Derived.Test.YtabmpnmhjdbdmaaGreatDoorNorMath
import Derived.Test.YtabmpnmhjdbdmaaGreatDoorRatioMake
namespace Go.Proofs.YtabmpnmhjdbdmaaGreatDoor.Nr
open Go.ChangeShapes Go.WideShapes Go.RowKit Wo Sr Wi Ra Eu
set_option linter.unusedVariables false
theorem abs_ok (n : Int) (h0 : -4611686018427387904 ≤ n) (h1 : n ≤ 4611686018427387904) (w : World) : Calls Tryz.prog 66 #[.int .i64 n] w fun e w' => e = .returned (.int .i64 (if n < 0 then -n else n)) ∧ w = w' := by
  rcases Int.lt_trichotomy n 0 with h | rfl | h
  · rw [if_pos h]
    go_enter Tryz.func66, Tryz.ntmps66
    go_wp2
    go_ret
    exact ⟨rfl, rfl⟩
  · go_enter Tryz.func66, Tryz.ntmps66
    go_wp2
    go_ret
    exact ⟨rfl, rfl⟩
  · rw [if_neg (by omega)]
    go_enter Tryz.func66, Tryz.ntmps66
    go_wp2
    go_ret
    exact ⟨rfl, rfl⟩
theorem bd_in {A : Int} {L : List Int} (h : Bd A L) (hA : 0 ≤ A) (k : Nat) (h32 : L.length ≤ k) : -(A * (k : Int)) ≤ su ix L ∧ su ix L ≤ A * (k : Int) := by
  have b := su_bd h
  have e : A * (L.length : Int) ≤ A * (k : Int) := Int.mul_le_mul_of_nonneg_left (by omega) hA
  omega
set_option maxHeartbeats 8000000 in
set_option maxRecDepth 100000 in
theorem product_ok (A A' : Option Addr) (c c' n : Nat) (L M : List Int) (n2 : n ≤ 32) (hs : Sam L) (ht : Sam M) (w : World) (h1 : Zi w A n L) (h2 : Zi w A' n M) :
    Calls Tryz.prog 65 #[.slice A n c, .slice A' n c'] w fun e w' => e = .returned (.int .i64 (pr L M)) ∧ Bel w w' := by
  have H1 := Lib.hid h1
  have H2 := Lib.hid h2
  have HS := Lib.hid hs
  have HT := Lib.hid ht
  have hlen : L.length = M.length := by rw [h1.1, h2.1]
  have hl := h1.1
  have HP : Hid (Bd 1000000 (pw L M)) := pw_bd (A := 1000) (B := 1000) (by decide) (by decide) hs ht
  have i2 : (n : Int) ≤ 32 := by omega
  have HE : Hid (pr L M = (n : Int) * su ix (pw L M) - su ix L * su ix M) := by show _ = _; unfold pr; rw [dot_pw, hl]
  have HPL : Hid ((pw L M).length = n) := by show _ = _; rw [pw_len hlen, hl]
  clear h1 h2 hs ht
  go_enter Tryz.func65, Tryz.ntmps65
  go_wp2
  go_loopw [5, 6, 7, 11] (fun s5 s6 s7 s11 wr => ∃ (t : Nat) (V : World) (p s q : Int), V = wr ∧ t ≤ n ∧ s11 = .int .i64 (t : Int) ∧ s5 = .int .i64 p ∧ s6 = .int .i64 s ∧ s7 = .int .i64 q ∧ p = su ix ((pw L M).take t) ∧ s = su ix (L.take t) ∧ q = su ix (M.take t) ∧ Bel w wr) (fun _ _ _ s11 _ => n - (intOf s11).toNat)
  case atStart => exact ⟨0, _, 0, 0, 0, rfl, by omega, rfl, rfl, rfl, rfl, by simp [su], by simp [su], by simp [su], Bel.rf⟩
  case round =>
    obtain ⟨t, wr, p, s, q, hwr, ht, rfl, rfl, rfl, rfl, hp, hsx, hq, hb⟩ := hrel
    subst hwr
    have HB := Lib.hid hb
    have HPV := Lib.hid hp
    have HSV := Lib.hid hsx
    have HQV := Lib.hid hq
    have b1 := bd_in (k := 32) (HP.out.take t) (by decide) (by have := List.length_take_le t (pw L M); have := HPL.out; omega)
    have b2 := bd_in (k := 32) (Bd.take (B := 1000) HS.out t) (by decide) (by have := List.length_take_le t L; omega)
    have b3 := bd_in (k := 32) (Bd.take (B := 1000) HT.out t) (by decide) (by have := List.length_take_le t M; omega)
    rw [← hp] at b1
    rw [← hsx] at b2
    rw [← hq] at b3
    obtain ⟨b10, b11⟩ : -32000000 ≤ p ∧ p ≤ 32000000 := by omega
    obtain ⟨b20, b21⟩ : -32000 ≤ s ∧ s ≤ 32000 := by omega
    obtain ⟨b30, b31⟩ : -32000 ≤ q ∧ q ≤ 32000 := by omega
    clear b1 b2 b3
    rcases Nat.lt_or_ge t n with hlt | hge
    · obtain ⟨ad, rfl, _, hac⟩ := (H1.out.bel hb).2 (by omega)
      obtain ⟨ad', rfl, _, hac'⟩ := (H2.out.bel hb).2 (by omega)
      have c1 := hac t hlt
      have c2 := hac' t hlt
      have hn1 := su_next ix (pw L M) t (by have := HPL.out; omega)
      have hn2 := su_next ix L t (by omega)
      have hn3 := su_next ix M t (by omega)
      rw [pw_at hlen t (by omega)] at hn1
      have px := HS.out.at t
      have py := HT.out.at t
      obtain ⟨x, hx⟩ : ∃ x, L.getD t 0 = x := ⟨_, rfl⟩
      obtain ⟨y, hy⟩ : ∃ y, M.getD t 0 = y := ⟨_, rfl⟩
      rw [hx] at c1 px hn1 hn2
      rw [hy] at c2 py hn1 hn3
      rw [← hp] at hn1
      rw [← hsx] at hn2
      rw [← hq] at hn3
      obtain ⟨x0, x1⟩ := px
      obtain ⟨y0, y1⟩ := py
      have mb := mul_bd (A := 1000) (B := 1000) (by decide) (by decide) x0 x1 y0 y1
      obtain ⟨xy, hxy⟩ : ∃ z, x * y = z := ⟨_, rfl⟩
      have HN : Hid (p + x * y = su ix ((pw L M).take (t + 1)) ∧ s + x = su ix (L.take (t + 1)) ∧ q + y = su ix (M.take (t + 1))) := ⟨hn1.symm, hn2.symm, hn3.symm⟩
      rw [hxy] at mb
      obtain ⟨mb0, mb1⟩ : -1000000 ≤ xy ∧ xy ≤ 1000000 := by omega
      have m1 : wrap64 (x * y) = xy := by rw [hxy]; exact IntWalk.wrap64_in _ (by omega)
      have m2 : IntKind.i64.wrap (x * y) = xy := by rw [hxy]; exact IntWalk.i64_in _ (by omega)
      have m3 : IntKind.i64.wrap (p + xy) = p + xy := IntWalk.i64_in _ (by omega)
      have ti : (t : Int) < (n : Int) := by omega
      have HXY := Lib.hid (And.intro hx (And.intro hy hxy))
      clear hb hp hsx hq hac hac' hx hy hn1 hn2 hn3 mb hxy
      go_wp2
      go_quiet (fail)
      go_wp2
      go_roundw
      case rel => exact ⟨t + 1, _, _, _, _, rfl, by omega, by go_num, rfl, rfl, rfl, by rw [← HN.out.1, HXY.out.2.2], HN.out.2.1, HN.out.2.2, by first | exact HB.out.drwN _ | exact HB.out.drw | exact HB.out⟩
      case measure => simp [intOf]; omega
    · obtain rfl : t = n := by omega
      rw [List.take_of_length_le (by have := HPL.out; omega)] at hp
      rw [List.take_of_length_le (by omega)] at hsx
      rw [List.take_of_length_le (by omega)] at hq
      have HN := Lib.hid (And.intro hp (And.intro hsx hq))
      have e1 := mul_bd (A := 32) (B := 32000000) (x := (t : Int)) (y := p) (by decide) (by decide) (by omega) (by omega) (by omega) (by omega)
      have e2 := mul_bd (A := 32000) (B := 32000) (by decide) (by decide) b20 b21 b30 b31
      have m1 : wrap64 ((t : Int) * p) = (t : Int) * p := IntWalk.wrap64_in _ (by omega)
      have m2 : wrap64 (s * q) = s * q := IntWalk.wrap64_in _ (by omega)
      have m3 : wrap64 ((t : Int) * p - s * q) = (t : Int) * p - s * q := IntWalk.wrap64_in _ (by omega)
      clear hb hp hsx hq e1 e2
      go_wp2
      go_ret
      exact ⟨ret_int (m3.trans (by rw [HE.out, ← HN.out.1, ← HN.out.2.1, ← HN.out.2.2])), HB.out⟩
/-- the gap of two windows, as a value -/
def gv (L M : List Int) : Value := .agg #[.int .i64 (rN (vr L) (vr M) (pr L M)), .int .i64 (rD (vr L) (vr M) (pr L M))]
set_option maxHeartbeats 8000000 in
set_option maxRecDepth 100000 in
theorem gap_ok (A A' : Option Addr) (c c' n : Nat) (L M : List Int) (n2 : n ≤ 32) (hs : Sam L) (ht : Sam M) (w : World) (h1 : Zi w A n L) (h2 : Zi w A' n M) :
    Calls Tryz.prog 50 #[.slice A n c, .slice A' n c'] w fun e w' => e = .returned (.tuple #[gv L M, .int .i64 0]) ∧ Bel w w' := by
  have hl : L.length = M.length := by rw [h1.1, h2.1]
  have hl2 := h1.1
  have v := vr_le hs (by omega)
  have u := vr_le ht (by omega)
  have p := pr_le hs ht (by omega) hl
  have cs := pr_cs hl
  have g := gap_in (c := pr L M) v.1 u.1 v.2 u.2 cs
  have r := red_in (c := pr L M) v.1 u.1 v.2 u.2 cs
  have vw := vw_le v.1 u.1 v.2 u.2
  have sge := sg_in cs
  have HP : Hid (∀ W, Bel w W → _) := fun W hW => product_ok A A' c c' n L M n2 hs ht W (h1.bel hW) (h2.bel hW)
  have HV : Hid (∀ W, Bel w W → Calls Tryz.prog 65 #[.slice A n c, .slice A n c] W fun e w' => e = .returned (.int .i64 (vr L)) ∧ Bel W w') := fun W hW => by
    rw [← pr_self]; exact product_ok A A c c n L L n2 hs hs W (h1.bel hW) (h1.bel hW)
  have HU : Hid (∀ W, Bel w W → Calls Tryz.prog 65 #[.slice A' n c', .slice A' n c'] W fun e w' => e = .returned (.int .i64 (vr M)) ∧ Bel W w') := fun W hW => by
    rw [← pr_self]; exact product_ok A' A' c' c' n M M n2 ht ht W (h2.bel hW) (h2.bel hW)
  unfold gv
  generalize vr L = V at *
  generalize vr M = U at *
  generalize pr L M = C at *
  have hin : rin (rN V U C) (rD V U C) = true := rin_yes ⟨by omega, by omega, by omega, by omega⟩
  have HMK : Hid (∀ W, Calls Tryz.prog 47 #[.int .i64 (gN V U C), .int .i64 (gD V U)] W fun e w' => e = .returned (.tuple #[.agg #[.int .i64 (rN V U C), .int .i64 (rD V U C)], .int .i64 0]) ∧ Bel W w') := fun W =>
    make_in (gN V U C) (gD V U) W g.1 g.2.2.1 hin (by omega) (by omega)
  have HAB : Hid (∀ W, Calls Tryz.prog 66 #[.int .i64 C] W fun e w' => e = .returned (.int .i64 (if C < 0 then -C else C)) ∧ W = w') := fun W => abs_ok C (by omega) (by omega) W
  have hsg := sg_abs C
  generalize rN V U C = X at *
  generalize rD V U C = Y at *
  clear h1 h2 hs ht hl hl2 r hin
  obtain ⟨v0, v1⟩ := v
  obtain ⟨u0, u1⟩ := u
  obtain ⟨p0, p1⟩ := p
  rcases Classical.em (V = 0) with hv | hv
  · rcases Classical.em (U = 0) with hu | hu
    · subst hv
      subst hu
      rw [show gN 0 0 C = 0 from rfl, show gD 0 0 = 1 from rfl] at HMK
      clear g vw sge cs
      go_enter Tryz.func50, Tryz.ntmps50
      go_wp2_with fail
      go_at_call 65
      refine (HP.out _ (Bel.rf.al _)).mono ?_
      rintro e w1 ⟨rfl, hb1⟩
      have HB1 : Hid (Bel w w1) := (Bel.rf.al _).tr hb1
      have HK1 : Hid (Bk w1 w.heap.size 31 #[.int .i64 0, .int .i64 0]) := (Bk.nw _ _ _).bel hb1
      clear hb1
      go_wp2_with fail
      go_at_call 65
      refine (HV.out _ HB1.out).mono ?_
      rintro e w2 ⟨rfl, hb2⟩
      have HB2 := Lib.hid (HB1.out.tr hb2)
      have HK2 := Lib.hid (HK1.out.bel hb2)
      clear hb2
      go_wp2_with fail
      go_at_call 65
      refine (HU.out _ HB2.out).mono ?_
      rintro e w3 ⟨rfl, hb3⟩
      have HB3 := Lib.hid (HB2.out.tr hb3)
      have HK3 := Lib.hid (HK2.out.bel hb3)
      clear hb3
      go_wp2_with fail
      go_at_call 47
      refine (HMK.out _).mono ?_
      rintro e w4 ⟨rfl, hb4⟩
      have K4 := HK3.out.bel hb4
      have l0 : w4.cell? ⟨w.heap.size, 0, none⟩ = some (.int .i64 0) := K4.cell 0
      have l1 : w4.cell? ⟨w.heap.size, 1, none⟩ = some (.int .i64 0) := K4.cell 1
      have j0 := K4.fr 0
      have j1 := K4.fr 1
      have HF := Lib.hid (HB3.out.tr hb4)
      clear hb4 K4
      go_wp2
      refine bodyPost_ret (v := .tuple #[.agg #[.int .i64 X, .int .i64 Y], .int .i64 0]) (by simp [results, Tryz.results50, go_sem, l0, l1]) rfl ⟨rfl, ?_⟩
      exact (HF.out.st (Nat.le_refl _) _).st (Nat.le_refl _) _
    · subst hv
      have gn : gN 0 U C = 1 := by unfold gN; rw [if_pos rfl, if_neg hu]
      have gdn : gD 0 U = 1 := by unfold gD; rw [if_pos rfl]
      rw [gn, gdn] at HMK
      have k2 : (U == 0) = false := by simpa using hu
      clear g vw sge cs gn gdn
      go_enter Tryz.func50, Tryz.ntmps50
      go_wp2_with fail
      go_at_call 65
      refine (HP.out _ (Bel.rf.al _)).mono ?_
      rintro e w1 ⟨rfl, hb1⟩
      have HB1 : Hid (Bel w w1) := (Bel.rf.al _).tr hb1
      have HK1 : Hid (Bk w1 w.heap.size 31 #[.int .i64 0, .int .i64 0]) := (Bk.nw _ _ _).bel hb1
      clear hb1
      go_wp2_with fail
      go_at_call 65
      refine (HV.out _ HB1.out).mono ?_
      rintro e w2 ⟨rfl, hb2⟩
      have HB2 := Lib.hid (HB1.out.tr hb2)
      have HK2 := Lib.hid (HK1.out.bel hb2)
      clear hb2
      go_wp2_with fail
      go_at_call 65
      refine (HU.out _ HB2.out).mono ?_
      rintro e w3 ⟨rfl, hb3⟩
      have HB3 := Lib.hid (HB2.out.tr hb3)
      have HK3 := Lib.hid (HK2.out.bel hb3)
      clear hb3
      go_wp2_with fail
      go_at_call 47
      refine (HMK.out _).mono ?_
      rintro e w4 ⟨rfl, hb4⟩
      have K4 := HK3.out.bel hb4
      have l0 : w4.cell? ⟨w.heap.size, 0, none⟩ = some (.int .i64 0) := K4.cell 0
      have l1 : w4.cell? ⟨w.heap.size, 1, none⟩ = some (.int .i64 0) := K4.cell 1
      have j0 := K4.fr 0
      have j1 := K4.fr 1
      have HF := Lib.hid (HB3.out.tr hb4)
      clear hb4 K4
      go_wp2
      refine bodyPost_ret (v := .tuple #[.agg #[.int .i64 X, .int .i64 Y], .int .i64 0]) (by simp [results, Tryz.results50, go_sem, l0, l1]) rfl ⟨rfl, ?_⟩
      exact (HF.out.st (Nat.le_refl _) _).st (Nat.le_refl _) _
  · have k1 : (V == 0) = false := by simpa using hv
    rcases Classical.em (U = 0) with hu | hu
    · subst hu
      have gn : gN V 0 C = 1 := by unfold gN; rw [if_neg hv, if_pos rfl]
      have gdn : gD V 0 = 1 := by unfold gD; rw [if_neg hv, if_pos rfl]
      rw [gn, gdn] at HMK
      clear g vw sge cs gn gdn
      go_enter Tryz.func50, Tryz.ntmps50
      go_wp2_with fail
      go_at_call 65
      refine (HP.out _ (Bel.rf.al _)).mono ?_
      rintro e w1 ⟨rfl, hb1⟩
      have HB1 : Hid (Bel w w1) := (Bel.rf.al _).tr hb1
      have HK1 : Hid (Bk w1 w.heap.size 31 #[.int .i64 0, .int .i64 0]) := (Bk.nw _ _ _).bel hb1
      clear hb1
      go_wp2_with fail
      go_at_call 65
      refine (HV.out _ HB1.out).mono ?_
      rintro e w2 ⟨rfl, hb2⟩
      have HB2 := Lib.hid (HB1.out.tr hb2)
      have HK2 := Lib.hid (HK1.out.bel hb2)
      clear hb2
      go_wp2_with fail
      go_at_call 65
      refine (HU.out _ HB2.out).mono ?_
      rintro e w3 ⟨rfl, hb3⟩
      have HB3 := Lib.hid (HB2.out.tr hb3)
      have HK3 := Lib.hid (HK2.out.bel hb3)
      clear hb3
      go_wp2_with fail
      go_at_call 47
      refine (HMK.out _).mono ?_
      rintro e w4 ⟨rfl, hb4⟩
      have K4 := HK3.out.bel hb4
      have l0 : w4.cell? ⟨w.heap.size, 0, none⟩ = some (.int .i64 0) := K4.cell 0
      have l1 : w4.cell? ⟨w.heap.size, 1, none⟩ = some (.int .i64 0) := K4.cell 1
      have j0 := K4.fr 0
      have j1 := K4.fr 1
      have HF := Lib.hid (HB3.out.tr hb4)
      clear hb4 K4
      go_wp2
      refine bodyPost_ret (v := .tuple #[.agg #[.int .i64 X, .int .i64 Y], .int .i64 0]) (by simp [results, Tryz.results50, go_sem, l0, l1]) rfl ⟨rfl, ?_⟩
      exact (HF.out.st (Nat.le_refl _) _).st (Nat.le_refl _) _
    · have k2 : (U == 0) = false := by simpa using hu
      have gn : gN V U C = V * U - sg C := by unfold gN; rw [if_neg hv, if_neg hu]
      have gdn : gD V U = V * U := by unfold gD; rw [if_neg hv, if_neg hu]
      rw [gn, gdn] at HMK
      obtain ⟨B, hB⟩ : ∃ B, (if C < 0 then -C else C) = B := ⟨_, rfl⟩
      rw [hB] at HAB hsg
      obtain ⟨S, hS⟩ : ∃ S, sg C = S := ⟨_, rfl⟩
      rw [hS] at HMK hsg sge
      obtain ⟨W, hW⟩ : ∃ W, V * U = W := ⟨_, rfl⟩
      rw [hW] at HMK sge vw
      have m1 : wrap64 (V * U) = W := by rw [hW]; exact IntWalk.wrap64_in _ (by omega)
      have m2 : IntKind.i64.wrap (V * U) = W := by rw [hW]; exact IntWalk.i64_in _ (by omega)
      have m3 : wrap64 (C * B) = S := by rw [← hsg]; exact IntWalk.wrap64_in _ (by omega)
      have m4 : IntKind.i64.wrap (C * B) = S := by rw [← hsg]; exact IntWalk.i64_in _ (by omega)
      have m5 : wrap64 (W - S) = W - S := IntWalk.wrap64_in _ (by omega)
      have m6 : IntKind.i64.wrap (W - S) = W - S := IntWalk.i64_in _ (by omega)
      have m9 : wrap64 W = W := IntWalk.wrap64_in _ (by omega)
      have m10 : wrap64 S = S := IntWalk.wrap64_in _ (by omega)
      have m7 : V * U = W := hW
      have m8 : C * B = S := hsg.symm
      clear g vw sge cs gn gdn hB hsg hS hW
      go_enter Tryz.func50, Tryz.ntmps50
      go_wp2_with fail
      go_at_call 65
      refine (HP.out _ (Bel.rf.al _)).mono ?_
      rintro e w1 ⟨rfl, hb1⟩
      have HB1 : Hid (Bel w w1) := (Bel.rf.al _).tr hb1
      have HK1 : Hid (Bk w1 w.heap.size 31 #[.int .i64 0, .int .i64 0]) := (Bk.nw _ _ _).bel hb1
      clear hb1
      go_wp2_with fail
      go_at_call 65
      refine (HV.out _ HB1.out).mono ?_
      rintro e w2 ⟨rfl, hb2⟩
      have HB2 := Lib.hid (HB1.out.tr hb2)
      have HK2 := Lib.hid (HK1.out.bel hb2)
      clear hb2
      go_wp2_with fail
      go_at_call 65
      refine (HU.out _ HB2.out).mono ?_
      rintro e w3 ⟨rfl, hb3⟩
      have HB3 := Lib.hid (HB2.out.tr hb3)
      have HK3 := Lib.hid (HK2.out.bel hb3)
      clear hb3
      go_wp2_with fail
      go_at_call 66
      refine (HAB.out _).mono ?_
      rintro e v ⟨rfl, rfl⟩
      go_wp2_with fail
      go_at_call 47
      refine (HMK.out _).mono ?_
      rintro e w4 ⟨rfl, hb4⟩
      have K4 := HK3.out.bel hb4
      have l0 : w4.cell? ⟨w.heap.size, 0, none⟩ = some (.int .i64 0) := K4.cell 0
      have l1 : w4.cell? ⟨w.heap.size, 1, none⟩ = some (.int .i64 0) := K4.cell 1
      have j0 := K4.fr 0
      have j1 := K4.fr 1
      have HF := Lib.hid (HB3.out.tr hb4)
      clear hb4 K4
      go_wp2
      refine bodyPost_ret (v := .tuple #[.agg #[.int .i64 X, .int .i64 Y], .int .i64 0]) (by simp [results, Tryz.results50, go_sem, l0, l1]) rfl ⟨rfl, ?_⟩
      exact (HF.out.st (Nat.le_refl _) _).st (Nat.le_refl _) _
set_option maxHeartbeats 4000000 in
theorem Gap_ok (A A' : Option Addr) (c c' n : Nat) (L M : List Int) (n1 : 2 ≤ n) (n2 : n ≤ 32) (hs : Sam L) (ht : Sam M) (w : World) (h1 : Zi w A n L) (h2 : Zi w A' n M) :
    Calls Tryz.prog 33 #[.slice A n c, .slice A' n c'] w fun e w' => e = .returned (.tuple #[gv L M, .int .i64 0]) ∧ Bel w w' := by
  have HW : Hid (∀ W, Bel w W → _) := fun W hW => windows_ok A A' c c' n L M n1 n2 hs ht W (h1.bel hW) (h2.bel hW)
  have HQ : Hid (∀ W, Bel w W → _) := fun W hW => gap_ok A A' c c' n L M n2 hs ht W (h1.bel hW) (h2.bel hW)
  clear h1 h2 hs ht
  unfold gv at *
  generalize rN (vr L) (vr M) (pr L M) = X at *
  generalize rD (vr L) (vr M) (pr L M) = Y at *
  go_enter Tryz.func33, Tryz.ntmps33
  go_wp2_with fail
  go_at_call 48
  refine (HW.out _ (Bel.rf.al _)).mono ?_
  rintro e w1 ⟨rfl, hb1⟩
  have HB1 : Hid (Bel w w1) := (Bel.rf.al _).tr hb1
  have HK1 : Hid (Bk w1 w.heap.size 31 #[.int .i64 0, .int .i64 0]) := (Bk.nw _ _ _).bel hb1
  clear hb1
  go_wp2_with fail
  go_at_call 50
  refine (HQ.out _ HB1.out).mono ?_
  rintro e w4 ⟨rfl, hb4⟩
  have K4 := HK1.out.bel hb4
  have l0 : w4.cell? ⟨w.heap.size, 0, none⟩ = some (.int .i64 0) := K4.cell 0
  have l1 : w4.cell? ⟨w.heap.size, 1, none⟩ = some (.int .i64 0) := K4.cell 1
  have j0 := K4.fr 0
  have j1 := K4.fr 1
  have HF := Lib.hid (HB1.out.tr hb4)
  clear hb4 K4
  go_wp2
  refine bodyPost_ret (v := .tuple #[.agg #[.int .i64 X, .int .i64 Y], .int .i64 0]) (by simp [results, Tryz.results33, go_sem, l0, l1]) rfl ⟨rfl, ?_⟩
  exact (HF.out.st (Nat.le_refl _) _).st (Nat.le_refl _) _
/-- the first k are filled in, the others are 0 -/
def fil (C : List Int) (k : Nat) : List Int := C.take k ++ List.replicate (C.length - k) 0
theorem fil_len (C : List Int) (k : Nat) (h : k ≤ C.length) : (fil C k).length = C.length := by simp [fil]; omega
theorem fil_zero (C : List Int) : fil C 0 = List.replicate C.length 0 := by simp [fil]
theorem fil_all (C : List Int) : fil C C.length = C := by simp [fil]
theorem fil_set (C : List Int) (k : Nat) (h : k < C.length) : (fil C k).set k (C.getD k 0) = fil C (k + 1) := by
  apply List.ext_getElem?
  intro i
  have e1 : C.getD k 0 = C[k] := by rw [List.getD_eq_getElem?_getD, List.getElem?_eq_getElem h]; rfl
  rw [e1]
  unfold fil
  rcases Nat.lt_trichotomy i k with g | g | g
  · rw [List.getElem?_set_ne (by omega), List.getElem?_append_left (by simp; omega), List.getElem?_append_left (by simp; omega), List.getElem?_take_of_lt g, List.getElem?_take_of_lt (by omega)]
  · subst g
    rw [List.getElem?_set_self (by simp; omega), List.getElem?_append_left (by simp; omega), List.getElem?_take_of_lt (by omega), List.getElem?_eq_getElem h]
  · rw [List.getElem?_set_ne (by omega), List.getElem?_append_right (by simp; omega), List.getElem?_append_right (by simp; omega), List.getElem?_replicate, List.getElem?_replicate]
    simp only [List.length_take]
    have : (i - min k C.length < C.length - k) = (i - min (k + 1) C.length < C.length - (k + 1)) := by apply propext; omega
    simp only [this]
theorem zs_set (L : List Int) (k : Nat) (y : Int) : (zs L).toArray.setIfInBounds k (.int .i64 y) = (zs (L.set k y)).toArray := by
  apply Array.toList_inj.1
  rw [Array.toList_setIfInBounds]
  simp [zs, List.map_set]
end Go.Proofs.YtabmpnmhjdbdmaaGreatDoor.Nr
