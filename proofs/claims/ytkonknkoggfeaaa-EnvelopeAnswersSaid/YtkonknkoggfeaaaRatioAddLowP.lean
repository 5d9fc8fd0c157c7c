/- The contract of ratio.Add where the numerator of the sum, brought to the common denominator, has at most 64 bits and the sum is within the limits. -/
import Derived.Test.YtkonknkoggfeaaaRatioAddP
namespace Go.Proofs.Ytkonknkoggfeaaa.Ra
open Go.ChangeShapes Go.WideShapes Go.RowKit Wo
set_option linter.unusedVariables false
set_option maxHeartbeats 32000000 in
set_option maxRecDepth 100000 in
theorem add_low (n d m e g s c : Int) (w : World) (hv : rv n d = true) (hv2 : rv m e = true) (hg : gd d e = g) (hs : n * (e / g) + m * (d / g) = s) (hs1 : s < 18446744073709551616) (hc : gd (s % g) g = c)
    (ht : s / c ≤ 2305843009213693952) (hu : d / g * (e / c) ≤ 1152921504606846976) :
    Calls Try.prog 55 #[.agg #[.int .i64 n, .int .i64 d], .agg #[.int .i64 m, .int .i64 e]] w fun r w' => r = .returned (.tuple #[.agg #[.int .i64 (s / c), .int .i64 (d / g * (e / c))], .int .i64 0]) ∧ Bel w w' := by
  have r1 := (of_rv hv).1
  have r2 := (of_rv hv2).1
  have n0 := r1.1
  have n1 := r1.2.1
  have d0 := r1.2.2.1
  have d1 := r1.2.2.2
  have m0 := r2.1
  have m1 := r2.2.1
  have e0 := r2.2.2.1
  have e1 := r2.2.2.2
  clear r1 r2
  have g0 : 1 ≤ g := by rw [← hg]; exact gd_pos (by omega)
  have g1 : g ≤ e := by rw [← hg]; exact gd_le_right (by omega)
  have x0 : 0 ≤ e / g := Int.ediv_nonneg (by omega) (by omega)
  have x1 : e / g ≤ e := Int.ediv_le_self _ (by omega)
  have y0 : 0 ≤ d / g := Int.ediv_nonneg (by omega) (by omega)
  have y1 : d / g ≤ d := Int.ediv_le_self _ (by omega)
  have p0 : 0 ≤ n * (e / g) := Int.mul_nonneg n0 x0
  have p1 : 0 ≤ m * (d / g) := Int.mul_nonneg m0 y0
  have s0 : 0 ≤ s := by omega
  have u0 : 0 ≤ s % g := Int.emod_nonneg _ (by omega)
  have u1 : s % g < g := Int.emod_lt_of_pos _ (by omega)
  have c0 : 1 ≤ c := by rw [← hc]; exact gd_pos (by omega)
  have c1 : c ≤ g := by rw [← hc]; exact gd_le_right (by omega)
  have z0 : 0 ≤ e / c := Int.ediv_nonneg (by omega) (by omega)
  have z1 : e / c ≤ e := Int.ediv_le_self _ (by omega)
  have t0 : 0 ≤ s / c := Int.ediv_nonneg s0 (by omega)
  have v0 : 0 ≤ d / g * (e / c) := Int.mul_nonneg y0 z0
  have gne : g ≠ 0 := by omega
  have cne : c ≠ 0 := by omega
  obtain ⟨z, hz⟩ : ∃ z : Int, z = 0 := ⟨0, rfl⟩
  have HP : ∀ W, Calls Try.prog 65 #[.int .i64 n, .int .i64 (e / g)] W fun r w' => r = .returned (.agg #[.int .u64 z, .int .u64 (n * (e / g))]) ∧ W.alloc (.cells #[.int .u64 z, .int .u64 (n * (e / g))] 83) = w' := fun W => by subst hz; exact product_low n (e / g) n0 x0 (by omega) (by omega) (by omega) W
  have HQ : ∀ W, Calls Try.prog 65 #[.int .i64 m, .int .i64 (d / g)] W fun r w' => r = .returned (.agg #[.int .u64 z, .int .u64 (m * (d / g))]) ∧ W.alloc (.cells #[.int .u64 z, .int .u64 (m * (d / g))] 83) = w' := fun W => by subst hz; exact product_low m (d / g) m0 y0 (by omega) (by omega) (by omega) W
  have HR : ∀ W, Calls Try.prog 65 #[.int .i64 (d / g), .int .i64 (e / c)] W fun r w' => r = .returned (.agg #[.int .u64 z, .int .u64 (d / g * (e / c))]) ∧ W.alloc (.cells #[.int .u64 z, .int .u64 (d / g * (e / c))] 83) = w' := fun W => by subst hz; exact product_low (d / g) (e / c) y0 z0 (by omega) (by omega) (by omega) W
  have HS : ∀ W, Calls Try.prog 64 #[.agg #[.int .u64 z, .int .u64 (n * (e / g))], .agg #[.int .u64 z, .int .u64 (m * (d / g))]] W fun r w' => r = .returned (.agg #[.int .u64 z, .int .u64 s]) ∧ ((W.alloc (.cells #[.int .u64 z, .int .u64 (n * (e / g))] 83)).alloc (.cells #[.int .u64 z, .int .u64 (m * (d / g))] 83)).alloc (.cells #[.int .u64 z, .int .u64 s] 83) = w' := fun W => by
    subst hz
    have := plus_low _ _ p0 p1 (by omega) W
    rw [hs] at this
    exact this
  have HD : ∀ W, Calls Try.prog 61 #[.int .i64 d, .int .i64 e] W fun r w' => r = .returned (.int .i64 g) ∧ Bel W w' := fun W => by
    have := divisor_bel d e (by omega) (by omega) W
    rw [hg] at this
    exact this
  have HE : ∀ W, Calls Try.prog 61 #[.int .i64 (s % g), .int .i64 g] W fun r w' => r = .returned (.int .i64 c) ∧ Bel W w' := fun W => by
    have := divisor_bel (s % g) g u0 (by omega) W
    rw [hc] at this
    exact this
  have td : ∀ a b : Int, 0 ≤ a → a ≤ 1152921504606846976 → 1 ≤ b → IntKind.i64.wrap (a.tdiv b) = a / b := fun a b ha hl hb => by
    rw [Int.tdiv_eq_ediv_of_nonneg ha]
    have h1 : 0 ≤ a / b := Int.ediv_nonneg ha (by omega)
    have h2 : a / b ≤ a := Int.ediv_le_self _ ha
    exact IntWalk.i64_in _ (by omega)
  have TE := Lib.hid (td e g (by omega) e1 g0)
  have TD := Lib.hid (td d g (by omega) d1 g0)
  have TC := Lib.hid (td e c (by omega) e1 c0)
  clear td
  have HZ0 := Lib.hid hz
  clear hz
  have JP := Lib.hid HP
  have JQ := Lib.hid HQ
  have JR := Lib.hid HR
  have JS := Lib.hid HS
  have JD := Lib.hid HD
  have JE := Lib.hid HE
  clear HP HQ HR HS HD HE hs hg hc
  go_enter Try.func55, Try.ntmps55
  go_wp2_with fail
  go_at_call 63; refine (valid_any _ _ _).mono ?_; rintro e w1 ⟨rfl, hb1⟩
  have B1 : Bk w1 (w.heap.size + 1) 39 #[.int .i64 m, .int .i64 e] := ((Bk.nq (w.alloc _) _ _ (by simp)).al _).bel hb1
  have k0 : w1.cell? ⟨w.heap.size + 1, 0, none⟩ = some (.int .i64 m) := B1.cell 0
  have k1 : w1.cell? ⟨w.heap.size + 1, 1, none⟩ = some (.int .i64 e) := B1.cell 1
  go_wp2_with fail
  go_at_call 63; refine (valid_any _ _ _).mono ?_; rintro e w2 ⟨rfl, hb2⟩
  have B0 : Bk w2 w.heap.size 39 #[.int .i64 n, .int .i64 d] := ((((Bk.nw _ _ _).al _).al _).bel hb1).bel hb2
  have B2 : Bk w2 (w.heap.size + 2) 39 #[.int .i64 0, .int .i64 0] := ((Bk.nq ((w.alloc _).alloc _) _ _ (by simp)).bel hb1).bel hb2
  have C1 := B1.bel hb2
  have q0 : w2.cell? ⟨w.heap.size + 1, 0, none⟩ = some (.int .i64 m) := C1.cell 0
  have q1 : w2.cell? ⟨w.heap.size + 1, 1, none⟩ = some (.int .i64 e) := C1.cell 1
  have q2 : w2.cell? ⟨w.heap.size, 0, none⟩ = some (.int .i64 n) := B0.cell 0
  have q3 : w2.cell? ⟨w.heap.size, 1, none⟩ = some (.int .i64 d) := B0.cell 1
  have HB : Hid (Bel w w2) := (by repeat (first | exact Bel.rf | (with_reducible refine Bel.drwN ?_ _) | (with_reducible refine Bel.drw ?_) | (with_reducible refine Bel.al ?_ _) | ((with_reducible refine Bel.st2 ?_ ?_ _); (show _ ≤ _); (simp only []; omega)) | refine Bel.tr ?_ (by assumption)))
  have HB2 := Lib.hid B2
  clear hb1 hb2 B0 B1 B2 C1 k0 k1
  go_wp2_with fail
  go_at_call 61
  refine (JD.out _).mono ?_
  rintro r w3 ⟨rfl, h3⟩
  have q0 := h3.kp q0
  have q1 := h3.kp q1
  have q2 := h3.kp q2
  have q3 := h3.kp q3
  have HB := Lib.hid (HB.out.tr h3)
  have HB2 := Lib.hid (HB2.out.bel h3)
  clear h3
  go_upto_region 4 with fail
  go_cut [7] (fun s7 wx => ∃ (h : Nat) (W : World), W = wx ∧ s7 = .pointer (some ⟨h, 0, none⟩) ∧ Bk wx h 83 #[.int .u64 z, .int .u64 s] ∧ Bel w3 wx)
  case first =>
    have te := TE.out
    have td := TD.out
    go_region_held3? (fun w' => w'.cell? ⟨w.heap.size + 1, 0, none⟩ = some (.int .i64 m) ∧ w'.cell? ⟨w.heap.size + 1, 1, none⟩ = some (.int .i64 e) ∧ w'.cell? ⟨w.heap.size, 0, none⟩ = some (.int .i64 n) ∧ w'.cell? ⟨w.heap.size, 1, none⟩ = some (.int .i64 d))
      ((refine ⟨?_, ?_, ?_, ?_⟩) <;> (repeat (first | exact q0 | exact q1 | exact q2 | exact q3 | (with_reducible refine kp_al ?_ _) | (with_reducible refine kp_drwN ?_ _) | (with_reducible refine kp_drw ?_))))
      (first
        | (go_at_call_of 65 (Value.int IntKind.i64 n); refine (JP.out _).mono ?_; rintro r p1 ⟨rfl, rfl⟩)
        | (go_at_call_of 65 (Value.int IntKind.i64 m); refine (JQ.out _).mono ?_; rintro r p2 ⟨rfl, rfl⟩)
        | (go_at_call 64; refine (JS.out _).mono ?_; rintro r p3 ⟨rfl, rfl⟩))
    all_goals (go_wp2_with fail; go_meet; exact ⟨_, _, rfl, rfl, (by repeat (first | (refine Bk.nq _ _ _ ?_; (simp; done)) | (with_reducible refine Bk.al ?_ _) | (with_reducible refine Bk.drwN ?_ _) | (with_reducible refine Bk.drw ?_))), (by repeat (first | exact Bel.rf | (with_reducible refine Bel.drwN ?_ _) | (with_reducible refine Bel.drw ?_) | (with_reducible refine Bel.al ?_ _) | ((with_reducible refine Bel.st2 ?_ ?_ _); (show _ ≤ _); (simp only []; omega)) | refine Bel.tr ?_ (by assumption)))⟩)
  case rest =>
    obtain ⟨h, wx, hwx, rfl, b7, hbx⟩ := hcut
    subst hwx
    rw [HZ0.out] at b7
    have vv0 : wx.cell? ⟨h, 0, none⟩ = some (.int .u64 0) := b7.cell 0
    have vv1 : wx.cell? ⟨h, 1, none⟩ = some (.int .u64 s) := b7.cell 1
    have q0 := hbx.kp q0
    have q1 := hbx.kp q1
    have q2 := hbx.kp q2
    have q3 := hbx.kp q3
    have HW : Hid (Bel w wx) := HB.out.tr hbx
    have HZ := Lib.hid (HB2.out.bel hbx)
    clear hbx b7 HB HB2
    go_wp2_with fail
    go_at_call 66
    refine (rem64_bel s g s0 (by omega) g0 (by omega) _).mono ?_
    rintro r w4 ⟨rfl, h4⟩
    have vv0 := h4.kp vv0
    have vv1 := h4.kp vv1
    have q0 := h4.kp q0
    have q1 := h4.kp q1
    have q2 := h4.kp q2
    have q3 := h4.kp q3
    have HW := Lib.hid (HW.out.tr h4)
    have HZ := Lib.hid (HZ.out.bel h4)
    clear h4
    go_wp2_with fail
    go_at_call 61
    refine (JE.out _).mono ?_
    rintro r w5 ⟨rfl, h5⟩
    have vv0 := h5.kp vv0
    have vv1 := h5.kp vv1
    have q0 := h5.kp q0
    have q1 := h5.kp q1
    have q2 := h5.kp q2
    have q3 := h5.kp q3
    have HW := Lib.hid (HW.out.tr h5)
    have HZ := Lib.hid (HZ.out.bel h5)
    clear h5
    go_wp2_with fail
    go_at_call 67
    refine (div64_bel s c s0 (by omega) c0 (by omega) _).mono ?_
    rintro r w6 ⟨rfl, h6⟩
    have vv0 := h6.kp vv0
    have vv1 := h6.kp vv1
    have q0 := h6.kp q0
    have q1 := h6.kp q1
    have q2 := h6.kp q2
    have q3 := h6.kp q3
    have HW := Lib.hid (HW.out.tr h6)
    have HZ := Lib.hid (HZ.out.bel h6)
    clear h6
    go_upto_region 9 with fail
    go_cut [11] (fun s11 wy => ∃ (h2 : Nat) (V : World), V = wy ∧ s11 = .pointer (some ⟨h2, 0, none⟩) ∧ Bk wy h2 83 #[.int .u64 z, .int .u64 (d / g * (e / c))] ∧ Bel w6 wy)
    case first =>
      have td := TD.out
      have tc := TC.out
      clear vv0 vv1 q0 q2
      have sz := HZ.out.lt
      have sz1 : w.heap.size < w6.heap.size := by omega
      have sz2 : w.heap.size + 1 < w6.heap.size := by omega
      clear HZ HW hv hv2 JP JQ JS JD JE TE TD TC hs1 ht hu
      go_region_held3? (fun w' => w'.cell? ⟨w.heap.size, 1, none⟩ = some (.int .i64 d) ∧ w'.cell? ⟨w.heap.size + 1, 1, none⟩ = some (.int .i64 e))
        ((refine ⟨?_, ?_⟩) <;> (repeat (first | exact q3 | exact q1 | (with_reducible refine kp_al ?_ _) | (with_reducible refine kp_drwN ?_ _) | (with_reducible refine kp_drw ?_))))
        (first | (go_at_call 65; refine (JR.out _).mono ?_; rintro r p1 ⟨rfl, rfl⟩))
      all_goals (go_wp2_with fail; go_meet; exact ⟨_, _, rfl, rfl, (by repeat (first | (refine Bk.nq _ _ _ ?_; (simp; done)) | (with_reducible refine Bk.al ?_ _) | (with_reducible refine Bk.drwN ?_ _) | (with_reducible refine Bk.drw ?_))), (by repeat (first | exact Bel.rf | (with_reducible refine Bel.drwN ?_ _) | (with_reducible refine Bel.drw ?_) | (with_reducible refine Bel.al ?_ _) | ((with_reducible refine Bel.st2 ?_ ?_ _); (show _ ≤ _); (simp only []; omega)) | refine Bel.tr ?_ (by assumption)))⟩)
    case rest =>
      obtain ⟨h2, wy, hwy, rfl, b11, hby⟩ := hcut
      subst hwy
      rw [HZ0.out] at b11
      have zz0 : wy.cell? ⟨h2, 0, none⟩ = some (.int .u64 0) := b11.cell 0
      have zz1 : wy.cell? ⟨h2, 1, none⟩ = some (.int .u64 (d / g * (e / c))) := b11.cell 1
      have B2 := HZ.out.bel hby
      have l0 : wy.cell? ⟨w.heap.size + 1 + 1, 0, none⟩ = some (.int .i64 0) := B2.cell 0
      have l1 : wy.cell? ⟨w.heap.size + 1 + 1, 1, none⟩ = some (.int .i64 0) := B2.cell 1
      have f0 : wy.frozen? ⟨w.heap.size + 1 + 1, 0, none⟩ = false := B2.fr 0
      have f1 : wy.frozen? ⟨w.heap.size + 1 + 1, 1, none⟩ = false := B2.fr 1
      have hww := HW.out
      clear b11 B2
      go_wp2
      exact bodyPost_ret (v := .tuple #[.agg #[.int .i64 (s / c), .int .i64 (d / g * (e / c))], .int .i64 0]) (by simp [results, Try.results55, go_sem, l0, l1]) rfl ⟨rfl, (by repeat (first | exact Bel.rf | (with_reducible refine Bel.drwN ?_ _) | (with_reducible refine Bel.drw ?_) | (with_reducible refine Bel.al ?_ _) | ((with_reducible refine Bel.st2 ?_ ?_ _); (show _ ≤ _); (simp only []; omega)) | refine Bel.tr ?_ (by assumption)))⟩
end Go.Proofs.Ytkonknkoggfeaaa.Ra
