/- The contract of ratio.Add for any two ratios. -/
import Derived.Test.YtmpkjlifcdobiaaDoorRatioAddCore
import Derived.Test.YtmpkjlifcdobiaaDoorSumMath
namespace Go.Proofs.YtmpkjlifcdobiaaDoor.Ra
open Go.ChangeShapes Go.WideShapes Go.RowKit Wo
set_option linter.unusedVariables false
theorem div64_all (hi lo y : Int) (h0 : 0 ≤ hi) (h1 : hi < y) (h2 : y ≤ 18446744073709551615) (h3 : 0 ≤ lo) (h4 : lo ≤ 18446744073709551615) (w : World) :
    Calls Tryd.prog 46 #[.int .u64 hi, .int .u64 lo, .int .u64 y] w fun e w' => e = .returned (.tuple #[.int .u64 ((hi * 18446744073709551616 + lo) / y), .int .u64 ((hi * 18446744073709551616 + lo) % y)]) ∧ Bel w w' := by
  rcases Int.lt_or_le 0 hi with h | h
  · exact (Dv.div64_any hi lo y (by omega) h1 h2 h3 h4 w).mono fun e w' ⟨he, hw⟩ => ⟨he, hw ▸ Bel.rf⟩
  · obtain rfl : hi = 0 := by omega
    have := div64_bel lo y h3 h4 (by omega) h2 w
    rw [show (0 : Int) * 18446744073709551616 + lo = lo by omega]
    exact this
theorem rem64_any (hi lo y : Int) (h0 : 0 ≤ hi) (h00 : hi ≤ 18446744073709551615) (h1 : 1 ≤ y) (h2 : y ≤ 18446744073709551615) (h3 : 0 ≤ lo) (h4 : lo ≤ 18446744073709551615) (w : World) :
    Calls Tryd.prog 45 #[.int .u64 hi, .int .u64 lo, .int .u64 y] w fun e w' => e = .returned (.int .u64 ((hi * 18446744073709551616 + lo) % y)) ∧ Bel w w' := by
  have b1 : (y == 0) = false := by simp; omega
  have c2 : 0 ≤ hi % y := Int.emod_nonneg _ (by omega)
  have c3 : hi % y < y := Int.emod_lt_of_pos _ (by omega)
  have hm : (hi % y * 18446744073709551616 + lo) % y = (hi * 18446744073709551616 + lo) % y := by
    have e : hi * 18446744073709551616 + lo = hi % y * 18446744073709551616 + lo + y * (hi / y * 18446744073709551616) := by
      have := Int.emod_add_mul_ediv hi y
      have k : hi * 18446744073709551616 = (hi % y + y * (hi / y)) * 18446744073709551616 := by rw [this]
      rw [k]; grind
    rw [e, Int.add_mul_emod_self_left]
  have HD : Hid (∀ W, Calls Tryd.prog 46 #[.int .u64 (hi % y), .int .u64 lo, .int .u64 y] W fun e w' => e = .returned (.tuple #[.int .u64 ((hi % y * 18446744073709551616 + lo) / y), .int .u64 ((hi % y * 18446744073709551616 + lo) % y)]) ∧ Bel W w') := fun W => div64_all _ lo y c2 c3 h2 h3 h4 W
  rw [hm] at HD
  clear hm h00
  go_enter Tryd.func45, Tryd.ntmps45
  go_wp2_with (go_at_call 46; refine (HD.out _).mono ?_; rintro e w1 ⟨rfl, hb⟩)
  go_ret
  exact ⟨rfl, hb⟩
set_option maxHeartbeats 4000000 in
set_option maxRecDepth 100000 in
theorem add_bad (n d m e : Int) (w : World) (h : rv n d = false ∨ rv n d = true ∧ rv m e = false) :
    Calls Tryd.prog 23 #[.agg #[.int .i64 n, .int .i64 d], .agg #[.int .i64 m, .int .i64 e]] w fun r w' => r = .returned (.tuple #[.agg #[.int .i64 0, .int .i64 0], .int .i64 1]) ∧ Bel w w' := by
  rcases h with h | ⟨h, k⟩
  · go_enter Tryd.func23, Tryd.ntmps23
    go_wp2_with fail
    go_at_call 15; refine (valid_any _ _ _).mono ?_; rintro e w1 ⟨rfl, hb1⟩
    have B2 : Bk w1 (w.heap.size + 2) 23 #[.int .i64 0, .int .i64 0] := (Bk.nq ((w.alloc _).alloc _) _ _ (by simp)).bel hb1
    have l0 : w1.cell? ⟨w.heap.size + 1 + 1, 0, none⟩ = some (.int .i64 0) := B2.cell 0
    have l1 : w1.cell? ⟨w.heap.size + 1 + 1, 1, none⟩ = some (.int .i64 0) := B2.cell 1
    have f0 : w1.frozen? ⟨w.heap.size + 1 + 1, 0, none⟩ = false := B2.fr 0
    have f1 : w1.frozen? ⟨w.heap.size + 1 + 1, 1, none⟩ = false := B2.fr 1
    have hww : Bel w w1 := (((Bel.rf.al _).al _).al _).tr hb1
    clear B2 hb1
    go_wp2
    exact bodyPost_ret (v := .tuple #[.agg #[.int .i64 0, .int .i64 0], .int .i64 1]) (by simp [results, Tryd.results23, go_sem, l0, l1]) rfl ⟨rfl, (by repeat (first | exact Bel.rf | (with_reducible refine Bel.drwN ?_ _) | (with_reducible refine Bel.drw ?_) | (with_reducible refine Bel.al ?_ _) | ((with_reducible refine Bel.st2 ?_ ?_ _); (show _ ≤ _); (simp only []; omega)) | refine Bel.tr ?_ (by assumption)))⟩
  · go_enter Tryd.func23, Tryd.ntmps23
    go_wp2_with fail
    go_at_call 15; refine (valid_any _ _ _).mono ?_; rintro e w1 ⟨rfl, hb1⟩
    have B1 : Bk w1 (w.heap.size + 1) 23 #[.int .i64 m, .int .i64 e] := ((Bk.nq (w.alloc _) _ _ (by simp)).al _).bel hb1
    have k0 : w1.cell? ⟨w.heap.size + 1, 0, none⟩ = some (.int .i64 m) := B1.cell 0
    have k1 : w1.cell? ⟨w.heap.size + 1, 1, none⟩ = some (.int .i64 e) := B1.cell 1
    go_wp2_with fail
    go_at_call 15; refine (valid_any _ _ _).mono ?_; rintro e w2 ⟨rfl, hb2⟩
    have B2 : Bk w2 (w.heap.size + 2) 23 #[.int .i64 0, .int .i64 0] := ((Bk.nq ((w.alloc _).alloc _) _ _ (by simp)).bel hb1).bel hb2
    have l0 : w2.cell? ⟨w.heap.size + 1 + 1, 0, none⟩ = some (.int .i64 0) := B2.cell 0
    have l1 : w2.cell? ⟨w.heap.size + 1 + 1, 1, none⟩ = some (.int .i64 0) := B2.cell 1
    have f0 : w2.frozen? ⟨w.heap.size + 1 + 1, 0, none⟩ = false := B2.fr 0
    have f1 : w2.frozen? ⟨w.heap.size + 1 + 1, 1, none⟩ = false := B2.fr 1
    have hww : Bel w w2 := ((((Bel.rf.al _).al _).al _).tr hb1).tr hb2
    clear B1 B2 hb1 hb2 k0 k1
    go_wp2
    exact bodyPost_ret (v := .tuple #[.agg #[.int .i64 0, .int .i64 0], .int .i64 1]) (by simp [results, Tryd.results23, go_sem, l0, l1]) rfl ⟨rfl, (by repeat (first | exact Bel.rf | (with_reducible refine Bel.drwN ?_ _) | (with_reducible refine Bel.drw ?_) | (with_reducible refine Bel.al ?_ _) | ((with_reducible refine Bel.st2 ?_ ?_ _); (show _ ≤ _); (simp only []; omega)) | refine Bel.tr ?_ (by assumption)))⟩
/-- the numbers of the way -/
theorem wide_sum {P Q : Int} (hP : 0 ≤ P) (hQ : 0 ≤ Q) (hb : P + Q < 340282366920938463463374607431768211456) :
    (P / 18446744073709551616 + Q / 18446744073709551616 + (P % 18446744073709551616 + Q % 18446744073709551616 + 0) / 18446744073709551616) % 18446744073709551616 = (P + Q) / 18446744073709551616 ∧
    (P % 18446744073709551616 + Q % 18446744073709551616 + 0) % 18446744073709551616 = (P + Q) % 18446744073709551616 := by
  omega
def rval (x : Int × Int × Int) : Value := .tuple #[.agg #[.int .i64 x.1, .int .i64 x.2.1], .int .i64 x.2.2]
set_option maxHeartbeats 4000000 in
theorem add_any (n d m e : Int) (w : World) :
    Calls Tryd.prog 23 #[.agg #[.int .i64 n, .int .i64 d], .agg #[.int .i64 m, .int .i64 e]] w fun r w' => r = .returned (rval (radd n d m e)) ∧ Bel w w' := by
  rcases hv : rv n d
  · rw [radd_out (.inl hv)]; exact add_bad n d m e w (.inl hv)
  · rcases hv2 : rv m e
    · rw [radd_out (.inr hv2)]; exact add_bad n d m e w (.inr ⟨hv, hv2⟩)
    · have v1 := of_rv hv
      have v2 := of_rv hv2
      obtain ⟨⟨n0, n1, d0, d1⟩, -⟩ := id v1
      obtain ⟨⟨m0, m1, e0, e1⟩, -⟩ := id v2
      obtain ⟨g, hg⟩ : ∃ g, gd d e = g := ⟨_, rfl⟩
      obtain ⟨s, hs⟩ : ∃ s, n * (e / g) + m * (d / g) = s := ⟨_, rfl⟩
      obtain ⟨c, hc⟩ : ∃ c, gd (s % g) g = c := ⟨_, rfl⟩
      obtain ⟨g0, c0, c1, s0, t0, u0, -, -⟩ := add_facts v1 v2 hg hs hc
      have g1 : g ≤ e := by rw [← hg]; exact gd_le_right (by omega)
      have x0 : 0 ≤ e / g := Int.ediv_nonneg (by omega) (by omega)
      have x1 : e / g ≤ e := Int.ediv_le_self _ (by omega)
      have y0 : 0 ≤ d / g := Int.ediv_nonneg (by omega) (by omega)
      have y1 : d / g ≤ d := Int.ediv_le_self _ (by omega)
      have z0 : 0 ≤ e / c := Int.ediv_nonneg (by omega) (by omega)
      have z1 : e / c ≤ e := Int.ediv_le_self _ (by omega)
      have p0 : 0 ≤ n * (e / g) := Int.mul_nonneg n0 x0
      have p1 : n * (e / g) ≤ 2305843009213693952 * 1152921504606846976 := Int.mul_le_mul n1 (by omega) x0 (by omega)
      have q0 : 0 ≤ m * (d / g) := Int.mul_nonneg m0 y0
      have q1 : m * (d / g) ≤ 2305843009213693952 * 1152921504606846976 := Int.mul_le_mul m1 (by omega) y0 (by omega)
      have r0 : 0 ≤ s % g := Int.emod_nonneg _ (by omega)
      have r1 : s % g < g := Int.emod_lt_of_pos _ (by omega)
      have k0 : 0 ≤ d / g * (e / c) := Int.mul_nonneg y0 z0
      have k1 : d / g * (e / c) ≤ 1152921504606846976 * 1152921504606846976 := Int.mul_le_mul (by omega) (by omega) z0 (by omega)
      have ws := wide_sum p0 q0 (by omega)
      rw [hs] at ws
      obtain ⟨P, hP⟩ : ∃ P, n * (e / g) = P := ⟨_, rfl⟩
      obtain ⟨Q, hQ⟩ : ∃ Q, m * (d / g) = Q := ⟨_, rfl⟩
      obtain ⟨U, hU⟩ : ∃ U, d / g * (e / c) = U := ⟨_, rfl⟩
      have hs2 : s / 18446744073709551616 * 18446744073709551616 + s % 18446744073709551616 = s := by omega
      have HPr := fun W => product_any n (e / g) n0 x0 (by omega) (by omega) W
      have HQr := fun W => product_any m (d / g) m0 y0 (by omega) (by omega) W
      have HUr := fun W => product_any (d / g) (e / c) y0 z0 (by omega) (by omega) W
      rw [hP] at HPr p0 p1 ws
      rw [hQ] at HQr q0 q1 ws
      rw [hU] at HUr k0 k1 u0
      have HS := fun W => plus_any (P / 18446744073709551616) (P % 18446744073709551616) (Q / 18446744073709551616) (Q % 18446744073709551616) (by omega) (by omega) (by omega) (by omega) (by omega) (by omega) W
      rw [ws.1, ws.2] at HS
      have hsb : s < 340282366920938463463374607431768211456 := by rw [← hs, hP, hQ]; omega
      have HD : ∀ W, Calls Tryd.prog 39 #[.int .i64 d, .int .i64 e] W fun r w' => r = .returned (.int .i64 g) ∧ Bel W w' := fun W => by
        have := divisor_bel d e (by omega) (by omega) W
        rwa [hg] at this
      have HE : ∀ W, Calls Tryd.prog 39 #[.int .i64 (s % g), .int .i64 g] W fun r w' => r = .returned (.int .i64 c) ∧ Bel W w' := fun W => by
        have := divisor_bel (s % g) g r0 (by omega) W
        rwa [hc] at this
      have HM : ∀ W, Calls Tryd.prog 45 #[.int .u64 (s / 18446744073709551616), .int .u64 (s % 18446744073709551616), .int .u64 g] W fun x w' => x = .returned (.int .u64 (s % g)) ∧ Bel W w' := fun W => by
        have := rem64_any (s / 18446744073709551616) (s % 18446744073709551616) g (by omega) (by omega) g0 (by omega) (by omega) (by omega) W
        rwa [hs2] at this
      obtain ⟨top, ht⟩ : ∃ top, (if s / 18446744073709551616 < c then s / c else 0) = top := ⟨_, rfl⟩
      have htop : s / 18446744073709551616 < c → s / c = top := fun h => by rw [← ht, if_pos h]
      have HV : s / 18446744073709551616 < c → ∀ W, Calls Tryd.prog 46 #[.int .u64 (s / 18446744073709551616), .int .u64 (s % 18446744073709551616), .int .u64 c] W fun x w' => x = .returned (.tuple #[.int .u64 top, .int .u64 (s % c)]) ∧ Bel W w' := fun h W => by
        have := div64_all (s / 18446744073709551616) (s % 18446744073709551616) c (by omega) h (by omega) (by omega) (by omega) W
        rwa [hs2, htop h] at this
      have tt : 0 ≤ top ∧ top ≤ 18446744073709551615 := by
        rcases Int.lt_or_le (s / 18446744073709551616) c with h | h
        · rw [← htop h]
          refine ⟨t0, ?_⟩
          have : s / c < 18446744073709551616 := Int.ediv_lt_of_lt_mul (by omega) (by
            have : (s / 18446744073709551616 + 1) * 18446744073709551616 ≤ c * 18446744073709551616 := Int.mul_le_mul_of_nonneg_right (by omega) (by omega)
            omega)
          omega
        · rw [← ht, if_neg (by omega)]; omega
      have core := add_core n d m e g w hv hv2 g0 g1 d0 d1 e0 e1 _ _ _ _ _ _ (s % g) c top (s % c) _ _ HPr HQr HS HD HM HE r0 r1 c0 c1 (by omega) (by omega) HV HUr tt.1 tt.2 (by omega) (by omega) (by omega)
      have hout : addOut (s / 18446744073709551616) c top (U / 18446744073709551616) (U % 18446744073709551616) = rval (radd n d m e) := by
        unfold radd
        rw [if_pos ⟨hv, hv2⟩, hg, hP, hQ]
        have hs3 : P + Q = s := by rw [← hs, hP, hQ]
        rw [hs3, hc, hU]
        unfold addOut
        rcases Int.lt_or_le (s / 18446744073709551616) c with h | h
        · have htp := htop h
          rw [htp]
          rcases Classical.em (top ≤ 2305843009213693952 ∧ U ≤ 1152921504606846976) with hl | hl
          · rw [if_pos ⟨h, hl.1, by omega, by omega⟩, if_pos hl]
            show _ = Value.tuple _
            rw [show U % 18446744073709551616 = U by omega]
          · rw [if_neg (fun x => hl ⟨x.2.1, by omega⟩), if_neg hl]; rfl
        · have hbig : ¬ s / c ≤ 2305843009213693952 := by
            intro hx
            have : c * 18446744073709551616 ≤ s := by
              have : c * 18446744073709551616 ≤ s / 18446744073709551616 * 18446744073709551616 := Int.mul_le_mul_of_nonneg_right h (by omega)
              omega
            have h2 : 18446744073709551616 ≤ s / c := (Int.le_ediv_iff_mul_le (by omega)).2 (by rw [Int.mul_comm]; exact this)
            omega
          rw [if_neg (fun x => by omega), if_neg (fun x => hbig x.1)]; rfl
      rw [hout] at core
      exact core
end Go.Proofs.YtmpkjlifcdobiaaDoor.Ra
