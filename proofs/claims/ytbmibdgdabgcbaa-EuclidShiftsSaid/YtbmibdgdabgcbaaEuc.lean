/- The contracts of limits.Windows and of euclid's functions over windows, of keep's Ints where two lists differ, and of the law's awake. -/
import Derived.Test.YtbmibdgdabgcbaaZi
import Derived.Test.YtbmibdgdabgcbaaEucMath
import Derived.Test.YtbmibdgdabgcbaaRatioMake
namespace Go.Proofs.Ytbmibdgdabgcbaa.Eu
open Go.ChangeShapes Go.WideShapes Go.RowKit Wo Sr Wi Ra
set_option linter.unusedVariables false
set_option maxHeartbeats 4000000 in
theorem windows_ok (A A' : Option Addr) (c c' n : Nat) (L M : List Int) (n1 : 2 ≤ n) (n2 : n ≤ 32) (hs : Sam L) (ht : Sam M) (w : World) (h1 : Zi w A n L) (h2 : Zi w A' n M) :
    Calls Try.prog 25 #[.slice A n c, .slice A' n c', .int .i64 0] w fun e w' => e = .returned (.int .i64 0) ∧ Bel w w' := by
  have H1 := Lib.hid h1
  have H2 := Lib.hid h2
  have HS := Lib.hid hs
  have HT := Lib.hid ht
  have i1 : 2 ≤ (n : Int) := by omega
  have i2 : (n : Int) ≤ 32 := by omega
  clear h1 h2 hs ht
  go_enter Try.func25, Try.ntmps25
  go_wp2_with fail
  go_at_call 34
  refine (length_ok (n : Int) i1 i2 _).mono ?_
  rintro e v ⟨rfl, rfl⟩
  go_wp2_with fail
  go_at_call 34
  refine (length_ok (n : Int) i1 i2 _).mono ?_
  rintro e v ⟨rfl, rfl⟩
  go_wp2_with fail
  go_at_call 32
  refine (samples_ok A c n L (by omega) HS.out _ H1.out).mono ?_
  rintro e w1 ⟨rfl, hb1⟩
  have HB1 := Lib.hid hb1
  clear hb1
  go_wp2_with (go_at_call 32; refine (samples_ok A' c' n M (by omega) HT.out _ (H2.out.bel HB1.out)).mono ?_; rintro e w2 ⟨rfl, hb2⟩)
  go_ret
  exact ⟨rfl, HB1.out.tr hb2⟩
theorem window_ok (A : Option Addr) (c n : Nat) (L : List Int) (n1 : 2 ≤ n) (n2 : n ≤ 32) (hs : Sam L) (w : World) (h1 : Zi w A n L) :
    Calls Try.prog 31 #[.slice A n c] w fun e w' => e = .returned (.int .i64 0) ∧ Bel w w' := by
  have H1 := Lib.hid h1
  have HS := Lib.hid hs
  have i1 : 2 ≤ (n : Int) := by omega
  have i2 : (n : Int) ≤ 32 := by omega
  clear h1 hs
  go_enter Try.func31, Try.ntmps31
  go_wp2_with fail
  go_at_call 34
  refine (length_ok (n : Int) i1 i2 _).mono ?_
  rintro e v ⟨rfl, rfl⟩
  go_wp2_with (go_at_call 32; refine (samples_ok A c n L (by omega) HS.out _ H1.out).mono ?_; rintro e w2 ⟨rfl, hb2⟩)
  go_ret
  exact ⟨rfl, hb2⟩
set_option maxHeartbeats 8000000 in
set_option maxRecDepth 100000 in
theorem squares_ok (A A' : Option Addr) (c c' n : Nat) (L M : List Int) (n2 : n ≤ 32) (hs : Sam L) (ht : Sam M) (w : World) (h1 : Zi w A n L) (h2 : Zi w A' n M) :
    Calls Try.prog 26 #[.slice A n c, .slice A' n c', .int .i64 9223372036854775807] w fun e w' => e = .returned (.int .i64 (su sq (df L M))) ∧ Bel w w' := by
  have H1 := Lib.hid h1
  have H2 := Lib.hid h2
  have HS := Lib.hid hs
  have HT := Lib.hid ht
  have hlen : L.length = M.length := by rw [h1.1, h2.1]
  have hl := h1.1
  have HD : Hid (Bd 2000 (df L M)) := df_bd (A := 1000) (B := 1000) hs ht
  have i2 : (n : Int) ≤ 32 := by omega
  clear h1 h2 hs ht
  go_enter Try.func26, Try.ntmps26
  go_wp2
  go_step3
  go_wp2
  go_step3
  go_wp2
  go_loopw [7, 12] (fun s7 s12 wr => ∃ (t : Nat) (V : World) (s : Int), V = wr ∧ t ≤ n ∧ s12 = .int .i64 (t : Int) ∧ s7 = .int .i64 s ∧ s = su sq ((df L M).take t) ∧ Bel w wr) (fun _ s12 _ => n - (intOf s12).toNat)
  case atStart => exact ⟨0, _, 0, rfl, by omega, rfl, rfl, by simp [su], Bel.rf⟩
  case round =>
    obtain ⟨t, wr, s, hwr, ht, rfl, rfl, hs, hb⟩ := hrel
    subst hwr
    have HB := Lib.hid hb
    have HSV := Lib.hid hs
    rcases Nat.lt_or_ge t n with hlt | hge
    · obtain ⟨ad, rfl, _, hac⟩ := (H1.out.bel hb).2 (by omega)
      obtain ⟨ad', rfl, _, hac'⟩ := (H2.out.bel hb).2 (by omega)
      have c1 := hac t hlt
      have c2 := hac' t hlt
      have hd := df_at hlen t (by omega)
      have hn := su_next sq (df L M) t (by rw [df_len hlen]; omega)
      have hbd := susq_bd (HD.out.take t)
      have hbd2 := susq_bd (HD.out.take (t + 1))
      have tl : (((df L M).take t).length : Int) ≤ 32 ∧ (((df L M).take (t + 1)).length : Int) ≤ 32 := by
        have := List.length_take_le t (df L M)
        have := List.length_take_le (t + 1) (df L M)
        omega
      have px := HS.out.at t
      have py := HT.out.at t
      obtain ⟨x, hx⟩ : ∃ x, L.getD t 0 = x := ⟨_, rfl⟩
      obtain ⟨y, hy⟩ : ∃ y, M.getD t 0 = y := ⟨_, rfl⟩
      rw [hx] at c1 px hd
      rw [hy] at c2 py hd
      rw [hd] at hn
      rw [hn, ← hs] at hbd2
      rw [← hs] at hbd hn
      unfold sq at hn hbd2
      obtain ⟨x0, x1⟩ := px
      obtain ⟨y0, y1⟩ := py
      obtain ⟨d, hdd⟩ : ∃ d, x - y = d := ⟨_, rfl⟩
      rw [hdd] at hn hbd2
      have HN : Hid (s + d * d = su sq ((df L M).take (t + 1))) := hn.symm
      have s0 : 0 ≤ s ∧ s ≤ 128000000 ∧ 0 ≤ s + d * d ∧ s + d * d ≤ 128000000 := by
        obtain ⟨a, b⟩ := hbd
        obtain ⟨a2, b2⟩ := hbd2
        omega
      have dq := sq_nn d
      obtain ⟨s00, s01, s02, s03⟩ := s0
      have m1 : wrap64 (d * d) = d * d := IntWalk.wrap64_in _ (by omega)
      have m2 : IntKind.i64.wrap (d * d) = d * d := IntWalk.i64_in _ (by omega)
      have m3 : IntKind.i64.wrap (s + d * d) = s + d * d := IntWalk.i64_in _ (by omega)
      have m5 : IntKind.i64.wrap d = d := IntWalk.i64_in _ (by omega)
      have m6 : IntKind.i64.wrap (x - y) = d := by rw [hdd]; exact m5
      have bk : decide (9223372036854775807 < s + d * d) = false := decide_eq_false (by omega)
      have ti : (t : Int) < (n : Int) := by omega
      have HXY := Lib.hid (And.intro hx hy)
      clear hb hs hac hac' hd hbd hbd2 tl hx hy hn
      go_wp2
      go_quiet (fail)
      go_wp2
      go_roundw
      case rel => exact ⟨t + 1, _, _, rfl, by omega, by go_num, rfl, HN.out, by first | exact HB.out.drwN _ | exact HB.out.drw | exact HB.out⟩
      case measure => simp [intOf]; omega
    · obtain rfl : t = n := by omega
      have e : (df L M).take t = df L M := List.take_of_length_le (by rw [df_len hlen]; omega)
      rw [e] at hs
      clear hb
      go_wp2
      rw [Exit.noGoto_ret]
      go_ret
      exact ⟨ret_int hs, HB.out⟩
theorem distance_ok (A A' : Option Addr) (c c' n : Nat) (L M : List Int) (n1 : 2 ≤ n) (n2 : n ≤ 32) (hs : Sam L) (ht : Sam M) (w : World) (h1 : Zi w A n L) (h2 : Zi w A' n M) :
    Calls Try.prog 11 #[.slice A n c, .slice A' n c'] w fun e w' => e = .returned (.tuple #[.int .i64 (su sq (df L M)), .int .i64 0]) ∧ Bel w w' := by
  have HW : Hid (∀ W, Bel w W → _) := fun W hW => windows_ok A A' c c' n L M n1 n2 hs ht W (h1.bel hW) (h2.bel hW)
  have HQ : Hid (∀ W, Bel w W → _) := fun W hW => squares_ok A A' c c' n L M n2 hs ht W (h1.bel hW) (h2.bel hW)
  clear h1 h2 hs ht
  go_enter Try.func11, Try.ntmps11
  go_wp2_with fail
  go_at_call 25
  refine (HW.out _ Bel.rf).mono ?_
  rintro e w1 ⟨rfl, hb1⟩
  have HB1 := Lib.hid hb1
  clear hb1
  go_wp2_with (go_at_call 26; refine (HQ.out _ HB1.out).mono ?_; rintro e w2 ⟨rfl, hb2⟩)
  go_ret2
  exact ⟨rfl, HB1.out.tr hb2⟩
set_option maxHeartbeats 8000000 in
set_option maxRecDepth 100000 in
theorem shifted_ok (A A' : Option Addr) (c c' n : Nat) (L M : List Int) (n1 : 2 ≤ n) (n2 : n ≤ 32) (hs : Sam L) (ht : Sam M) (w : World) (h1 : Zi w A n L) (h2 : Zi w A' n M) :
    Calls Try.prog 15 #[.slice A n c, .slice A' n c'] w fun e w' => e = .returned (.tuple #[.agg #[.int .i64 (vr (df L M) / gd (vr (df L M)) n), .int .i64 ((n : Int) / gd (vr (df L M)) n)], .int .i64 0]) ∧ Bel w w' := by
  have H1 := Lib.hid h1
  have H2 := Lib.hid h2
  have HS := Lib.hid hs
  have HT := Lib.hid ht
  have hlen : L.length = M.length := by rw [h1.1, h2.1]
  have hl := h1.1
  have HD : Hid (Bd 2000 (df L M)) := df_bd (A := 1000) (B := 1000) hs ht
  have i2 : (n : Int) ≤ 32 := by omega
  have i1 : 2 ≤ (n : Int) := by omega
  have dl : ((df L M).length : Int) = (n : Int) := by rw [df_len hlen, hl]
  have q1 := susq_bd HD.out
  have q2 := su_bd HD.out
  rw [dl] at q1 q2
  have hv := vr_nn (df L M)
  have hve : vr (df L M) = (n : Int) * su sq (df L M) - su ix (df L M) * su ix (df L M) := by unfold vr; rw [dl]
  have q3 := sq_nn (su ix (df L M))
  have q4 : (n : Int) * su sq (df L M) ≤ 32 * 128000000 := Int.mul_le_mul i2 (by omega) q1.1 (by omega)
  have q5 : 0 ≤ (n : Int) * su sq (df L M) := Int.mul_nonneg (by omega) q1.1
  obtain ⟨V, hV⟩ : ∃ V, vr (df L M) = V := ⟨_, rfl⟩
  rw [hV] at hv hve ⊢
  have HDI : Hid (∀ W, Bel w W → _) := fun W hW => distance_ok A A' c c' n L M n1 n2 hs ht W (h1.bel hW) (h2.bel hW)
  have mf := make_facts (n := V) (d := (n : Int)) hv (by omega) (by omega) (by omega)
  have HMK : Hid (∀ W, Calls Try.prog 27 #[.int .i64 V, .int .i64 (n : Int)] W fun e w' => e = .returned (.tuple #[.agg #[.int .i64 (V / gd V n), .int .i64 ((n : Int) / gd V n)], .int .i64 0]) ∧ Bel W w') := fun W =>
    make_in V (n : Int) W hv (by omega) (rin_yes ⟨by omega, by omega, by omega, by omega⟩) (by omega) (by omega)
  obtain ⟨X, hX⟩ : ∃ X, V / gd V n = X := ⟨_, rfl⟩
  obtain ⟨Y, hY⟩ : ∃ Y, (n : Int) / gd V n = Y := ⟨_, rfl⟩
  rw [hX, hY] at HMK ⊢
  obtain ⟨Q, hQ⟩ : ∃ Q, su sq (df L M) = Q := ⟨_, rfl⟩
  rw [hQ] at HDI hve q4 q5
  obtain ⟨S, hSe⟩ : ∃ S, su ix (df L M) = S := ⟨_, rfl⟩
  rw [hSe] at hve q3 q2
  have wp1 : wrap64 ((n : Int) * Q) = (n : Int) * Q := IntWalk.wrap64_in _ (by omega)
  have wp2 : wrap64 (S * S) = S * S := IntWalk.wrap64_in _ (by omega)
  have wp3 : wrap64 ((n : Int) * Q - S * S) = V := by rw [← hve]; exact IntWalk.wrap64_in _ (by omega)
  have wp5 : wrap64 V = V := IntWalk.wrap64_in _ (by omega)
  have wp4 : (n : Int) * Q - S * S = V := hve.symm
  have HSE := Lib.hid (And.intro hSe (And.intro hX hY))
  have HKV : Hid (0 ≤ V ∧ V ≤ 4096000000) := ⟨hv, by omega⟩
  clear h1 h2 hs ht dl q1 q2 hv hve q3 q4 q5 hV hQ hSe mf hX hY
  go_enter Try.func15, Try.ntmps15
  go_wp2_with fail
  go_at_call 11
  refine (HDI.out _ (Bel.rf.al _)).mono ?_
  rintro e w1 ⟨rfl, hb1⟩
  have HB1 : Hid (Bel w w1) := (Bel.rf.al _).tr hb1
  have HK1 : Hid (Bk w1 w.heap.size 37 #[.int .i64 0, .int .i64 0]) := (Bk.nw _ _ _).bel hb1
  clear hb1
  go_wp2
  go_loopw [8, 25] (fun s8 s25 wr => ∃ (t : Nat) (V : World) (s : Int), V = wr ∧ t ≤ n ∧ s25 = .int .i64 (t : Int) ∧ s8 = .int .i64 s ∧ s = su ix ((df L M).take t) ∧ Bel w1 wr) (fun _ s25 _ => n - (intOf s25).toNat)
  case atStart => exact ⟨0, _, 0, rfl, by omega, rfl, rfl, by simp [su], Bel.rf⟩
  case round =>
    obtain ⟨t, wr, s, hwr, ht, rfl, rfl, hs, hb⟩ := hrel
    subst hwr
    have HB := Lib.hid hb
    have HSV := Lib.hid hs
    rcases Nat.lt_or_ge t n with hlt | hge
    · obtain ⟨ad, rfl, _, hac⟩ := (H1.out.bel (HB1.out.tr hb)).2 (by omega)
      obtain ⟨ad', rfl, _, hac'⟩ := (H2.out.bel (HB1.out.tr hb)).2 (by omega)
      have c1 := hac t hlt
      have c2 := hac' t hlt
      have hd := df_at hlen t (by omega)
      have hn := su_next ix (df L M) t (by rw [df_len hlen]; omega)
      have hbd := su_bd (HD.out.take t)
      have tl : (((df L M).take t).length : Int) ≤ 32 := by have := List.length_take_le t (df L M); omega
      have px := HS.out.at t
      have py := HT.out.at t
      obtain ⟨x, hx⟩ : ∃ x, L.getD t 0 = x := ⟨_, rfl⟩
      obtain ⟨y, hy⟩ : ∃ y, M.getD t 0 = y := ⟨_, rfl⟩
      rw [hx] at c1 px hd
      rw [hy] at c2 py hd
      rw [hd] at hn
      rw [← hs] at hbd hn
      obtain ⟨x0, x1⟩ := px
      obtain ⟨y0, y1⟩ := py
      have HN : Hid (s + (x - y) = su ix ((df L M).take (t + 1))) := hn.symm
      have s0 : -64000 ≤ s ∧ s ≤ 64000 := by omega
      obtain ⟨s00, s01⟩ := s0
      have m6 : IntKind.i64.wrap (x - y) = x - y := IntWalk.i64_in _ (by omega)
      have m7 : IntKind.i64.wrap (s + (x - y)) = s + (x - y) := IntWalk.i64_in _ (by omega)
      have ti : (t : Int) < (n : Int) := by omega
      have HXY := Lib.hid (And.intro hx hy)
      clear hb hs hac hac' hd hbd tl hx hy hn wp1 wp2 wp3 wp4 wp5
      go_wp2
      go_quiet (fail)
      go_wp2
      go_roundw
      case rel => exact ⟨t + 1, _, _, rfl, by omega, by go_num, rfl, HN.out, by first | exact HB.out.drwN _ | exact HB.out.drw | exact HB.out⟩
      case measure => simp [intOf]; omega
    · obtain rfl : t = n := by omega
      have e : (df L M).take t = df L M := List.take_of_length_le (by rw [df_len hlen]; omega)
      rw [e, HSE.out.1] at hs
      subst hs
      have HF := Lib.hid (HB1.out.tr hb)
      have HK2 := Lib.hid (HK1.out.bel hb)
      clear hb e
      go_wp2_with fail
      go_at_call 27
      refine (HMK.out _).mono ?_
      rintro e w3' ⟨rfl, hb3⟩
      have K3 := HK2.out.bel hb3
      have l0 : w3'.cell? ⟨w.heap.size, 0, none⟩ = some (.int .i64 0) := K3.cell 0
      have l1 : w3'.cell? ⟨w.heap.size, 1, none⟩ = some (.int .i64 0) := K3.cell 1
      have j0 := K3.fr 0
      have j1 := K3.fr 1
      have HF3 := Lib.hid (HF.out.tr hb3)
      clear hb3 K3
      go_wp2
      refine bodyPost_ret (v := .tuple #[.agg #[.int .i64 X, .int .i64 Y], .int .i64 0]) (by simp [results, Try.results15, go_sem, l0, l1]) rfl ⟨rfl, ?_⟩
      exact (HF3.out.st (Nat.le_refl _) _).st (Nat.le_refl _) _
/-- a part of a slice -/
theorem zi_sub {w : World} {h N : Nat} {Z : List Int} (hz : Zi w (some ⟨h, 0, none⟩) N Z) (i n : Nat) (hi : i + n ≤ N) : Zi w (some ⟨h, i, none⟩) n ((Z.drop i).take n) := by
  have hl := hz.1
  refine ⟨by simp; omega, fun hn => ?_⟩
  obtain ⟨ad, e, hx, _⟩ := hz.2 (by omega)
  cases e
  refine ⟨_, rfl, hx, fun j hj => ?_⟩
  have := hz.at (i + j) (by omega)
  rw [show (⟨h, i, none⟩ : Addr).add j = ⟨h, i + j, none⟩ by unfold Addr.add; split <;> simp_all, this]
  simp [List.getD_eq_getElem?_getD, hj]
/-- the distances to the first k windows -/
def prof (Q Z : List Int) (n k : Nat) : List Int := (List.range k).map fun i => su sq (df Q ((Z.drop i).take n))
theorem prof_len (Q Z : List Int) (n k : Nat) : (prof Q Z n k).length = k := by simp [prof]
theorem prof_at (Q Z : List Int) (n k i : Nat) (h : i < k) : (prof Q Z n k).getD i 0 = su sq (df Q ((Z.drop i).take n)) := by
  rw [List.getD_eq_getElem?_getD, prof, List.getElem?_map, List.getElem?_range h]; rfl
theorem prof_next (Q Z : List Int) (n k : Nat) : prof Q Z n k ++ [su sq (df Q ((Z.drop k).take n))] = prof Q Z n (k + 1) := by
  unfold prof
  rw [List.range_succ (n := k), List.map_append]
  rfl
def PI (Q Z : List Int) (n N base : Nat) (w : World) (s7 s28 : Value) (wr : World) : Prop := ∃ (k : Nat) (V : World) (u : Value), V = wr ∧ u = s7 ∧ k ≤ N ∧ s28 = .int .i64 (k : Int) ∧
  wr.ownsRow base 3 1 s7 k (zs (prof Q Z n k)) ∧ Bel w wr ∧ base ≤ wr.heap.size
theorem pi_step {Q Z : List Int} {n N k h cap : Nat} {w wr w1 w2 : World} {s7 : Value} {y : Int} (hk : k < N) (hy : su sq (df Q ((Z.drop k).take n)) = y)
    (hown : wr.ownsRow w.heap.size 3 1 s7 k (zs (prof Q Z n k))) (hb : Bel w wr) (hbase : w.heap.size ≤ wr.heap.size) (h1 : Bel wr w1)
    (hown2 : w2.ownsRow w.heap.size 3 1 (.slice (some ⟨h, 0, none⟩) (k + 1) cap) (k + 1) (zs (prof Q Z n k) ++ [.int .i64 y])) (hgr : (w1.alloc (.cells #[.int .i64 y] 3)).grownBy w2 s7.ownBlock) :
    PI Q Z n N w.heap.size w (.slice (some ⟨h, 0, none⟩) (k + 1) cap) (.int .i64 ((k : Int) + 1)) w2 := by
  have hrow : ∀ b, s7.ownBlock = some b → w.heap.size ≤ b := fun b e => (hown.lt b e).1
  have h2 : Bel w (w1.alloc (.cells #[.int .i64 y] 3)) := (hb.tr h1).al _
  refine ⟨k + 1, _, _, rfl, rfl, by omega, by congr 1, ?_, ?_, ?_⟩
  · rw [← prof_next, zs_app, hy]; exact hown2
  · exact Below.grown h2 hgr h2.size (fun b e => by have := hrow b e; omega)
  · have := hgr.size
    have := h1.size
    simp at *
    omega
set_option maxHeartbeats 8000000 in
set_option maxRecDepth 100000 in
theorem profile_ok (A : Option Addr) (c n h c' T N : Nat) (Q Z : List Int) (n1 : 2 ≤ n) (n2 : n ≤ 32) (hT : T ≤ 2000) (hnT : n ≤ T) (hN : T + 1 - n = N) (hcap : T ≤ c') (hs : Sam Q) (ht : Sam Z) (w : World) (h1 : Zi w A n Q) (h2 : Zi w (some ⟨h, 0, none⟩) T Z) :
    Calls Try.prog 21 #[.slice A n c, .slice (some ⟨h, 0, none⟩) T c'] w fun e w' => ∃ v, e = .returned (.tuple #[v, .int .i64 0]) ∧ w'.ownsRow w.heap.size 3 1 v N (zs (prof Q Z n N)) ∧ Bel w w' := by
  obtain ⟨i0, hi0, hz0, hz1, hz2⟩ := info_parts info_int
  have HI := Lib.hid (And.intro hi0 (And.intro hz0 (And.intro hz1 hz2)))
  clear hi0 hz0 hz1 hz2
  have H1 := Lib.hid h1
  have H2 := Lib.hid h2
  have HS := Lib.hid hs
  have HT := Lib.hid ht
  have i1 : 2 ≤ (n : Int) := by omega
  have i2 : (n : Int) ≤ 32 := by omega
  have i3 : (T : Int) ≤ 2000 := by omega
  have i4 : (T : Int) ≤ (c' : Int) := by omega
  have hmx : (T : Int) - (n : Int) + 1 = (N : Int) := by omega
  have hN0 : 0 < (N : Int) := by omega
  have hNi : (N : Int) ≤ 2001 := by omega
  clear h1 h2 hs ht
  go_enter Try.func21, Try.ntmps21
  go_wp2_with fail
  go_at_call 31
  refine (window_ok A c n Q n1 n2 HS.out _ H1.out).mono ?_
  rintro e w1 ⟨rfl, hb1⟩
  have HB1 := Lib.hid hb1
  clear hb1
  go_wp2_with (go_at_call 32; refine (samples_ok _ c' T Z (by omega) HT.out _ (H2.out.bel HB1.out)).mono ?_; rintro e w2 ⟨rfl, hb2⟩)
  have HB2 := Lib.hid (HB1.out.tr hb2)
  clear hb2
  have HR0 : Hid (PI Q Z n N w2.heap.size w2 (.slice none 0 0) (.int .i64 0) w2) := ⟨0, _, _, rfl, rfl, by omega, rfl, World.ownsRow_nil _ _ _ _, Bel.rf, Nat.le_refl _⟩
  go_loopw [7, 28] (fun s7 s28 wr => PI Q Z n N w2.heap.size w2 s7 s28 wr) (fun _ s28 _ => N - (intOf s28).toNat)
  case atStart => exact HR0.out
  case round =>
    clear HR0
    obtain ⟨k, wr, u7, hwr, hu7, hk, rfl, hown, hb, hbase⟩ := hrel
    subst hwr hu7
    have HO := Lib.hid hown
    have HB := Lib.hid hb
    rcases Nat.lt_or_ge k N with hlt | hge
    · have hw : Bel w wr := HB2.out.tr hb
      have HSQ := Lib.hid (squares_ok A (some ⟨h, k, none⟩) c n n Q ((Z.drop k).take n) n2 HS.out ((HT.out.drop k).take n) wr (H1.out.bel hw) (zi_sub (H2.out.bel hw) k n (by omega)))
      obtain ⟨y, hy⟩ : ∃ y, su sq (df Q ((Z.drop k).take n)) = y := ⟨_, rfl⟩
      rw [hy] at HSQ
      have HY := Lib.hid hy
      have ki : (k : Int) < (N : Int) := by omega
      have kb : (k : Int) + (n : Int) ≤ (T : Int) := by omega
      have kc : (k : Int) + (n : Int) ≤ (c' : Int) := by omega
      clear hown hb hw hy
      go_wp2_with fail
      go_at_call 26
      refine HSQ.out.mono ?_
      rintro e w3 ⟨rfl, hb3⟩
      have hown1 := own_bel HO.out hb3
      have hsz := hb3.size
      have HOW := Lib.hid hown1
      have HB3 := Lib.hid hb3
      clear hown1 hb3
      go_wp2_with (at_builtin; refine wpList_append_lies _ (by rfl) _ _ 22 (by rfl) w2.heap.size 3 i0 _ 1 8 Try.underlying22 HI.out.1 HI.out.2.1 HI.out.2.2.1 HI.out.2.2.2 (by rfl) (by omega) u7 k (zs (prof Q Z n k)) (by rfl) (HOW.out.alloc _) ⟨w3.heap.size, 0, none⟩ 1 1 [.int .i64 y] (by rfl) (by rfl) (World.news_of_block (cs := #[.int .i64 y]) (t := 3) (fr := (0, 0)) (heap_alloc_new w3 _)) (by simp [Value.oneCell']) (by omega) (by unfold maxLen; omega) (by omega) (by simp; omega) (w3.heap.size + 1) (by simp) ?_; intro h' cap' w5 hown4 hgrow hat hlt4)
      have hstep := pi_step hlt HY.out HO.out HB.out hbase HB3.out hown4 hgrow
      have HST := Lib.hid hstep
      clear hstep hown4 hgrow hat
      go_wp2
      go_roundw
      case rel => exact HST.out
      case measure => simp [intOf]; omega
    · obtain rfl : k = N := by omega
      clear hown hb
      go_wp2
      go_ret2
      exact ⟨_, rfl, HO.out.mono HB2.out.size, HB2.out.tr HB.out⟩
set_option maxHeartbeats 4000000 in
theorem ints_diff (A A' : Option Addr) (c c' n : Nat) (L M : List Int) (hn : n ≤ 1000000) (hd : L ≠ M) (w : World) (h1 : Zi w A n L) (h2 : Zi w A' n M) :
    Calls Try.prog 12 #[.slice A n c, .slice A' n c'] w fun e w' => e = .returned (.bool false) ∧ Bel w w' := by
  have H1 := Lib.hid h1
  have H2 := Lib.hid h2
  have ni : (n : Int) ≤ 1000000 := by omega
  have HDF : Hid (¬ ∀ j, j < n → L.getD j 0 = M.getD j 0) := by
    show ¬ _
    intro hall
    apply hd
    apply List.ext_getElem?
    intro i
    rcases Nat.lt_or_ge i n with hi | hi
    · have := hall i hi
      rw [List.getD_eq_getElem?_getD, List.getD_eq_getElem?_getD, List.getElem?_eq_getElem (by rw [h1.1]; exact hi), List.getElem?_eq_getElem (by rw [h2.1]; exact hi)] at this
      rw [List.getElem?_eq_getElem (by rw [h1.1]; exact hi), List.getElem?_eq_getElem (by rw [h2.1]; exact hi)]
      exact congrArg some this
    · rw [List.getElem?_eq_none (by rw [h1.1]; exact hi), List.getElem?_eq_none (by rw [h2.1]; exact hi)]
  clear h1 h2 hd
  go_enter Try.func12, Try.ntmps12
  go_wp2
  go_loopw [13] (fun s13 wr => ∃ (k : Nat) (V : World), V = wr ∧ k ≤ n ∧ s13 = .int .i64 (k : Int) ∧ (∀ j, j < k → L.getD j 0 = M.getD j 0) ∧ Bel w wr) (fun s13 _ => n - (intOf s13).toNat)
  case atStart => exact ⟨0, _, rfl, by omega, rfl, fun j hj => by omega, Bel.rf⟩
  case round =>
    obtain ⟨k, wr, hwr, hk, rfl, hall, hb⟩ := hrel
    subst hwr
    have HB := Lib.hid hb
    have HAL := Lib.hid hall
    rcases Nat.lt_or_ge k n with hlt | hge
    · obtain ⟨ad, rfl, hab, hac⟩ := (H1.out.bel hb).2 (by omega)
      obtain ⟨ad', rfl, hab', hac'⟩ := (H2.out.bel hb).2 (by omega)
      have c1 := hac k hlt
      have c2 := hac' k hlt
      obtain ⟨x, hx⟩ : ∃ x, L.getD k 0 = x := ⟨_, rfl⟩
      obtain ⟨y, hy⟩ : ∃ x, M.getD k 0 = x := ⟨_, rfl⟩
      rw [hx] at c1
      rw [hy] at c2
      have ki : (k : Int) < (n : Int) := by omega
      have HXY := Lib.hid (And.intro hx hy)
      clear hb hac hac' hab hab' hx hy hall
      rcases Classical.em (x = y) with rfl | hxy
      · have kn := ne_self x
        go_wp2
        go_quiet (fail)
        go_wp2
        go_roundw
        case rel => exact ⟨k + 1, _, rfl, by omega, by go_num, fun j hj => by
          rcases Nat.lt_or_ge j k with h | h
          · exact HAL.out j h
          · obtain rfl : j = k := by omega
            rw [HXY.out.1, HXY.out.2], HB.out.drwN _⟩
        case measure => simp [intOf]; omega
      · have kn : (x != y) = true := by simpa using hxy
        go_wp2
        go_quiet (fail)
        go_wp2
        go_ret
        exact ⟨rfl, HB.out.drwN _⟩
    · obtain rfl : k = n := by omega
      exact absurd hall HDF.out
end Go.Proofs.Ytbmibdgdabgcbaa.Eu
