/- The contracts of limits.Windows and of euclid's functions over windows, of keep's Ints where two lists differ, and of the law's awake. -/
import Derived.Test.YtekeclapbfjdiaaEuc0
import Derived.Test.YtekeclapbfjdiaaZi
import Derived.Test.YtekeclapbfjdiaaEucMath
import Derived.Test.YtekeclapbfjdiaaRatioMake
namespace Go.Proofs.Ytekeclapbfjdiaa.Eu
open Go.ChangeShapes Go.WideShapes Go.RowKit Wo Sr Wi Ra
set_option linter.unusedVariables false
set_option maxHeartbeats 8000000 in
set_option maxRecDepth 100000 in
theorem squares_ok (A A' : Option Addr) (c c' n : Nat) (L M : List Int) (n2 : n ≤ 32) (hs : Sam L) (ht : Sam M) (w : World) (h1 : Zi w A n L) (h2 : Zi w A' n M) :
    Calls Try.prog 40 #[.slice A n c, .slice A' n c', .int .i64 9223372036854775807] w fun e w' => e = .returned (.int .i64 (su sq (df L M))) ∧ Bel w w' := by
  have H1 := Lib.hid h1
  have H2 := Lib.hid h2
  have HS := Lib.hid hs
  have HT := Lib.hid ht
  have hlen : L.length = M.length := by rw [h1.1, h2.1]
  have hl := h1.1
  have HD : Hid (Bd 2000 (df L M)) := df_bd (A := 1000) (B := 1000) hs ht
  have i2 : (n : Int) ≤ 32 := by omega
  clear h1 h2 hs ht
  go_enter Try.func40, Try.ntmps40
  go_wp2
  go_step3
  go_wp2
  go_step3
  go_wp2
  go_loopw [7, 12] (fun s7 s12 wr => ∃ (t : Nat) (V : World) (s : Int), V = wr ∧ t ≤ n ∧ s12 = .int .i64 (t : Int) ∧ s7 = .int .i64 s ∧ s = su sq ((df L M).take t) ∧ Bel w wr) (fun _ s12 _ => n - (intOf s12).toNat)
  case atStart => exact ⟨0, _, 0, rfl, by omega, rfl, rfl, by simp [su], Bel.rf⟩
  case round =>
    obtain ⟨t, wr, s, hwr, ht, rfl, rfl, hs, hb⟩ := hrel
    subst hwr
    have HB := Lib.hid hb
    have HSV := Lib.hid hs
    rcases Nat.lt_or_ge t n with hlt | hge
    · obtain ⟨ad, rfl, _, hac⟩ := (H1.out.bel hb).2 (by omega)
      obtain ⟨ad', rfl, _, hac'⟩ := (H2.out.bel hb).2 (by omega)
      have c1 := hac t hlt
      have c2 := hac' t hlt
      have hd := df_at hlen t (by omega)
      have hn := su_next sq (df L M) t (by rw [df_len hlen]; omega)
      have hbd := susq_bd (HD.out.take t)
      have hbd2 := susq_bd (HD.out.take (t + 1))
      have tl : (((df L M).take t).length : Int) ≤ 32 ∧ (((df L M).take (t + 1)).length : Int) ≤ 32 := by
        have := List.length_take_le t (df L M)
        have := List.length_take_le (t + 1) (df L M)
        omega
      have px := HS.out.at t
      have py := HT.out.at t
      obtain ⟨x, hx⟩ : ∃ x, L.getD t 0 = x := ⟨_, rfl⟩
      obtain ⟨y, hy⟩ : ∃ y, M.getD t 0 = y := ⟨_, rfl⟩
      rw [hx] at c1 px hd
      rw [hy] at c2 py hd
      rw [hd] at hn
      rw [hn, ← hs] at hbd2
      rw [← hs] at hbd hn
      unfold sq at hn hbd2
      obtain ⟨x0, x1⟩ := px
      obtain ⟨y0, y1⟩ := py
      obtain ⟨d, hdd⟩ : ∃ d, x - y = d := ⟨_, rfl⟩
      rw [hdd] at hn hbd2
      have HN : Hid (s + d * d = su sq ((df L M).take (t + 1))) := hn.symm
      have s0 : 0 ≤ s ∧ s ≤ 128000000 ∧ 0 ≤ s + d * d ∧ s + d * d ≤ 128000000 := by
        obtain ⟨a, b⟩ := hbd
        obtain ⟨a2, b2⟩ := hbd2
        omega
      have dq := sq_nn d
      obtain ⟨s00, s01, s02, s03⟩ := s0
      have m1 : wrap64 (d * d) = d * d := IntWalk.wrap64_in _ (by omega)
      have m2 : IntKind.i64.wrap (d * d) = d * d := IntWalk.i64_in _ (by omega)
      have m3 : IntKind.i64.wrap (s + d * d) = s + d * d := IntWalk.i64_in _ (by omega)
      have m5 : IntKind.i64.wrap d = d := IntWalk.i64_in _ (by omega)
      have m6 : IntKind.i64.wrap (x - y) = d := by rw [hdd]; exact m5
      have bk : decide (9223372036854775807 < s + d * d) = false := decide_eq_false (by omega)
      have ti : (t : Int) < (n : Int) := by omega
      have HXY := Lib.hid (And.intro hx hy)
      clear hb hs hac hac' hd hbd hbd2 tl hx hy hn
      go_wp2
      go_quiet (fail)
      go_wp2
      go_roundw
      case rel => exact ⟨t + 1, _, _, rfl, by omega, by go_num, rfl, HN.out, by first | exact HB.out.drwN _ | exact HB.out.drw | exact HB.out⟩
      case measure => simp [intOf]; omega
    · obtain rfl : t = n := by omega
      have e : (df L M).take t = df L M := List.take_of_length_le (by rw [df_len hlen]; omega)
      rw [e] at hs
      clear hb
      go_wp2
      rw [Exit.noGoto_ret]
      go_ret
      exact ⟨ret_int hs, HB.out⟩
theorem distance_ok (A A' : Option Addr) (c c' n : Nat) (L M : List Int) (n1 : 2 ≤ n) (n2 : n ≤ 32) (hs : Sam L) (ht : Sam M) (w : World) (h1 : Zi w A n L) (h2 : Zi w A' n M) :
    Calls Try.prog 11 #[.slice A n c, .slice A' n c'] w fun e w' => e = .returned (.tuple #[.int .i64 (su sq (df L M)), .int .i64 0]) ∧ Bel w w' := by
  have HW : Hid (∀ W, Bel w W → _) := fun W hW => windows_ok A A' c c' n L M n1 n2 hs ht W (h1.bel hW) (h2.bel hW)
  have HQ : Hid (∀ W, Bel w W → _) := fun W hW => squares_ok A A' c c' n L M n2 hs ht W (h1.bel hW) (h2.bel hW)
  clear h1 h2 hs ht
  go_enter Try.func11, Try.ntmps11
  go_wp2_with fail
  go_at_call 39
  refine (HW.out _ Bel.rf).mono ?_
  rintro e w1 ⟨rfl, hb1⟩
  have HB1 := Lib.hid hb1
  clear hb1
  go_wp2_with (go_at_call 40; refine (HQ.out _ HB1.out).mono ?_; rintro e w2 ⟨rfl, hb2⟩)
  go_ret2
  exact ⟨rfl, HB1.out.tr hb2⟩
set_option maxHeartbeats 8000000 in
set_option maxRecDepth 100000 in
theorem shifted_ok (A A' : Option Addr) (c c' n : Nat) (L M : List Int) (n1 : 2 ≤ n) (n2 : n ≤ 32) (hs : Sam L) (ht : Sam M) (w : World) (h1 : Zi w A n L) (h2 : Zi w A' n M) :
    Calls Try.prog 13 #[.slice A n c, .slice A' n c'] w fun e w' => e = .returned (.tuple #[.agg #[.int .i64 (vr (df L M) / gd (vr (df L M)) n), .int .i64 ((n : Int) / gd (vr (df L M)) n)], .int .i64 0]) ∧ Bel w w' := by
  have H1 := Lib.hid h1
  have H2 := Lib.hid h2
  have HS := Lib.hid hs
  have HT := Lib.hid ht
  have hlen : L.length = M.length := by rw [h1.1, h2.1]
  have hl := h1.1
  have HD : Hid (Bd 2000 (df L M)) := df_bd (A := 1000) (B := 1000) hs ht
  have i2 : (n : Int) ≤ 32 := by omega
  have i1 : 2 ≤ (n : Int) := by omega
  have dl : ((df L M).length : Int) = (n : Int) := by rw [df_len hlen, hl]
  have q1 := susq_bd HD.out
  have q2 := su_bd HD.out
  rw [dl] at q1 q2
  have hv := vr_nn (df L M)
  have hve : vr (df L M) = (n : Int) * su sq (df L M) - su ix (df L M) * su ix (df L M) := by unfold vr; rw [dl]
  have q3 := sq_nn (su ix (df L M))
  have q4 : (n : Int) * su sq (df L M) ≤ 32 * 128000000 := Int.mul_le_mul i2 (by omega) q1.1 (by omega)
  have q5 : 0 ≤ (n : Int) * su sq (df L M) := Int.mul_nonneg (by omega) q1.1
  obtain ⟨V, hV⟩ : ∃ V, vr (df L M) = V := ⟨_, rfl⟩
  rw [hV] at hv hve ⊢
  have HDI : Hid (∀ W, Bel w W → _) := fun W hW => distance_ok A A' c c' n L M n1 n2 hs ht W (h1.bel hW) (h2.bel hW)
  have mf := make_facts (n := V) (d := (n : Int)) hv (by omega) (by omega) (by omega)
  have HMK : Hid (∀ W, Calls Try.prog 43 #[.int .i64 V, .int .i64 (n : Int)] W fun e w' => e = .returned (.tuple #[.agg #[.int .i64 (V / gd V n), .int .i64 ((n : Int) / gd V n)], .int .i64 0]) ∧ Bel W w') := fun W =>
    make_in V (n : Int) W hv (by omega) (rin_yes ⟨by omega, by omega, by omega, by omega⟩) (by omega) (by omega)
  obtain ⟨X, hX⟩ : ∃ X, V / gd V n = X := ⟨_, rfl⟩
  obtain ⟨Y, hY⟩ : ∃ Y, (n : Int) / gd V n = Y := ⟨_, rfl⟩
  rw [hX, hY] at HMK ⊢
  obtain ⟨Q, hQ⟩ : ∃ Q, su sq (df L M) = Q := ⟨_, rfl⟩
  rw [hQ] at HDI hve q4 q5
  obtain ⟨S, hSe⟩ : ∃ S, su ix (df L M) = S := ⟨_, rfl⟩
  rw [hSe] at hve q3 q2
  have wp1 : wrap64 ((n : Int) * Q) = (n : Int) * Q := IntWalk.wrap64_in _ (by omega)
  have wp2 : wrap64 (S * S) = S * S := IntWalk.wrap64_in _ (by omega)
  have wp3 : wrap64 ((n : Int) * Q - S * S) = V := by rw [← hve]; exact IntWalk.wrap64_in _ (by omega)
  have wp5 : wrap64 V = V := IntWalk.wrap64_in _ (by omega)
  have wp4 : (n : Int) * Q - S * S = V := hve.symm
  have HSE := Lib.hid (And.intro hSe (And.intro hX hY))
  have HKV : Hid (0 ≤ V ∧ V ≤ 4096000000) := ⟨hv, by omega⟩
  clear h1 h2 hs ht dl q1 q2 hv hve q3 q4 q5 hV hQ hSe mf hX hY
  go_enter Try.func13, Try.ntmps13
  go_wp2_with fail
  go_at_call 11
  refine (HDI.out _ (Bel.rf.al _)).mono ?_
  rintro e w1 ⟨rfl, hb1⟩
  have HB1 : Hid (Bel w w1) := (Bel.rf.al _).tr hb1
  have HK1 : Hid (Bk w1 w.heap.size 37 #[.int .i64 0, .int .i64 0]) := (Bk.nw _ _ _).bel hb1
  clear hb1
  go_wp2
  go_loopw [8, 25] (fun s8 s25 wr => ∃ (t : Nat) (V : World) (s : Int), V = wr ∧ t ≤ n ∧ s25 = .int .i64 (t : Int) ∧ s8 = .int .i64 s ∧ s = su ix ((df L M).take t) ∧ Bel w1 wr) (fun _ s25 _ => n - (intOf s25).toNat)
  case atStart => exact ⟨0, _, 0, rfl, by omega, rfl, rfl, by simp [su], Bel.rf⟩
  case round =>
    obtain ⟨t, wr, s, hwr, ht, rfl, rfl, hs, hb⟩ := hrel
    subst hwr
    have HB := Lib.hid hb
    have HSV := Lib.hid hs
    rcases Nat.lt_or_ge t n with hlt | hge
    · obtain ⟨ad, rfl, _, hac⟩ := (H1.out.bel (HB1.out.tr hb)).2 (by omega)
      obtain ⟨ad', rfl, _, hac'⟩ := (H2.out.bel (HB1.out.tr hb)).2 (by omega)
      have c1 := hac t hlt
      have c2 := hac' t hlt
      have hd := df_at hlen t (by omega)
      have hn := su_next ix (df L M) t (by rw [df_len hlen]; omega)
      have hbd := su_bd (HD.out.take t)
      have tl : (((df L M).take t).length : Int) ≤ 32 := by have := List.length_take_le t (df L M); omega
      have px := HS.out.at t
      have py := HT.out.at t
      obtain ⟨x, hx⟩ : ∃ x, L.getD t 0 = x := ⟨_, rfl⟩
      obtain ⟨y, hy⟩ : ∃ y, M.getD t 0 = y := ⟨_, rfl⟩
      rw [hx] at c1 px hd
      rw [hy] at c2 py hd
      rw [hd] at hn
      rw [← hs] at hbd hn
      obtain ⟨x0, x1⟩ := px
      obtain ⟨y0, y1⟩ := py
      have HN : Hid (s + (x - y) = su ix ((df L M).take (t + 1))) := hn.symm
      have s0 : -64000 ≤ s ∧ s ≤ 64000 := by omega
      obtain ⟨s00, s01⟩ := s0
      have m6 : IntKind.i64.wrap (x - y) = x - y := IntWalk.i64_in _ (by omega)
      have m7 : IntKind.i64.wrap (s + (x - y)) = s + (x - y) := IntWalk.i64_in _ (by omega)
      have ti : (t : Int) < (n : Int) := by omega
      have HXY := Lib.hid (And.intro hx hy)
      clear hb hs hac hac' hd hbd tl hx hy hn wp1 wp2 wp3 wp4 wp5
      go_wp2
      go_quiet (fail)
      go_wp2
      go_roundw
      case rel => exact ⟨t + 1, _, _, rfl, by omega, by go_num, rfl, HN.out, by first | exact HB.out.drwN _ | exact HB.out.drw | exact HB.out⟩
      case measure => simp [intOf]; omega
    · obtain rfl : t = n := by omega
      have e : (df L M).take t = df L M := List.take_of_length_le (by rw [df_len hlen]; omega)
      rw [e, HSE.out.1] at hs
      subst hs
      have HF := Lib.hid (HB1.out.tr hb)
      have HK2 := Lib.hid (HK1.out.bel hb)
      clear hb e
      go_wp2_with fail
      go_at_call 43
      refine (HMK.out _).mono ?_
      rintro e w3' ⟨rfl, hb3⟩
      have K3 := HK2.out.bel hb3
      have l0 : w3'.cell? ⟨w.heap.size, 0, none⟩ = some (.int .i64 0) := K3.cell 0
      have l1 : w3'.cell? ⟨w.heap.size, 1, none⟩ = some (.int .i64 0) := K3.cell 1
      have j0 := K3.fr 0
      have j1 := K3.fr 1
      have HF3 := Lib.hid (HF.out.tr hb3)
      clear hb3 K3
      go_wp2
      refine bodyPost_ret (v := .tuple #[.agg #[.int .i64 X, .int .i64 Y], .int .i64 0]) (by simp [results, Try.results13, go_sem, l0, l1]) rfl ⟨rfl, ?_⟩
      exact (HF3.out.st (Nat.le_refl _) _).st (Nat.le_refl _) _
end Go.Proofs.Ytekeclapbfjdiaa.Eu
