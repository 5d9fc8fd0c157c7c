/- That the law ResampleBetween returns true for every input that can be read, and leaves its arguments as they were; no further condition. -/
import Derived.Test.YtdkibffbaamkkaaRows
import Derived.WalkKit
import Derived.ProofKit
import Derived.OpenShut
import Derived.Test.YtdkibffbaamkkaaWords
import Derived.Test.YtdkibffbaamkkaaSrcNew0
import Derived.Test.YtdkibffbaamkkaaRes6
import Derived.ShutString
namespace Go.Proofs.Ytdkibffbaamkkaa.resampleBetween
open Go.ChangeShapes Go.WideShapes Go.ChangeAt Go.RowKit Wo
open Go.ChangeMaps (open_string shut_string)
set_option linter.unusedVariables false      -- a walk need not use every 'w<i>' (that an integer argument fits its kind)

theorem own : ownKnob Try.prog.godebug = none := by kernel_rfl

open Go.Proofs.Ytdkibffbaamkkaa.Rg Go.Proofs.Ytdkibffbaamkkaa.Rm Go.Proofs.Ytdkibffbaamkkaa.Wi Go.Proofs.Ytdkibffbaamkkaa.Wo Go.Proofs.Ytdkibffbaamkkaa.Sr in
theorem tm_in (a : Int) (h : -32768 ≤ a) (h2 : a ≤ 32767) : -999 ≤ a.tmod 1000 ∧ a.tmod 1000 ≤ 999 := by
  have h1 : a.tmod 1000 < 1000 := Int.tmod_lt_of_pos a (by omega)
  rcases Int.lt_or_le a 0 with h | h
  · have e := Int.neg_tmod (a := -a) (b := 1000)
    rw [Int.neg_neg] at e
    have := Int.tmod_lt_of_pos (-a) (b := 1000) (by omega)
    have := Int.tmod_nonneg (a := -a) 1000 (by omega)
    omega
  · have := Int.tmod_nonneg (a := a) 1000 h
    omega
open Go.Proofs.Ytdkibffbaamkkaa.Rg Go.Proofs.Ytdkibffbaamkkaa.Rm in
theorem asc_pq (p q n : Int) (hn : 1 ≤ n) (hn2 : n ≤ 256) (p0 : -999 ≤ p) (p1 : p ≤ 999) (q0 : -999 ≤ q) (q1 : q ≤ 999) : Asc [(100, p), (100 + n, q)] :=
  asc_snoc (asc_snoc asc_nil 100 p (fun i hi => by simp at hi) (by decide) (by decide) (by omega) (by omega)) (100 + n) q (fun i hi => by
    obtain rfl : i = 0 := by simpa using hi
    show (100 : Int) < _
    omega) (by omega) (by omega) (by omega) (by omega)
open Go.Proofs.Ytdkibffbaamkkaa.Rg Go.Proofs.Ytdkibffbaamkkaa.Rm in
theorem line_facts (p q n k : Int) (hn : 1 ≤ n) (k0 : 0 ≤ k) (kn : k + 1 ≤ n) (u v : Int) (hu : hup (nu p q n k) n = u) (hv : hup (nu p q n (k + 1)) n = v) : (p ≤ q → p ≤ u ∧ u ≤ v ∧ v ≤ q) ∧ (q ≤ p → q ≤ v ∧ v ≤ u ∧ u ≤ p) ∧ 2 * (p * (n - k) + q * k - u * n) < n ∧ -n ≤ 2 * (p * (n - k) + q * k - u * n) := by
  have hr := hup_rest (a := nu p q n k) (show 0 < n by omega)
  rw [hu] at hr
  refine ⟨fun h => ?_, fun h => ?_, hr.1, hr.2⟩
  · have a := nu_up h k0 kn
    have b1 := hup_mono (show 0 < n by omega) a.1
    have b2 := hup_mono (show 0 < n by omega) a.2.1
    have b3 := hup_mono (show 0 < n by omega) a.2.2
    rw [hup_mul _ (by omega)] at b1 b3
    omega
  · have a := nu_dn h k0 kn
    have b1 := hup_mono (show 0 < n by omega) a.1
    have b2 := hup_mono (show 0 < n by omega) a.2.1
    have b3 := hup_mono (show 0 < n by omega) a.2.2
    rw [hup_mul _ (by omega)] at b1 b3
    omega
open Go.Proofs.Ytdkibffbaamkkaa.Rg Go.Proofs.Ytdkibffbaamkkaa.Rm Go.Proofs.Ytdkibffbaamkkaa.Wi Go.Proofs.Ytdkibffbaamkkaa.Wo Go.Proofs.Ytdkibffbaamkkaa.Sr in
set_option maxHeartbeats 4000000 in
set_option maxRecDepth 100000 in
theorem walk (a0 : Int) (a1 : Int) (a2 : Int) (a3 : Int) (w0 : (Lit.int .i16 a0).wf = true) (w1 : (Lit.int .i16 a1).wf = true) (w2 : (Lit.int .u8 a2).wf = true) (w3 : (Lit.int .u8 a3).wf = true) (w : World) :
    Calls Try.prog 9 #[.int .i16 a0, .int .i16 a1, .int .u8 a2, .int .u8 a3] w fun e w' => e = .returned (.bool true) ∧ Below w.heap.size w w' := by
  obtain ⟨x0, x1⟩ := bounds_i16 w0
  obtain ⟨y0, y1⟩ := bounds_i16 w1
  obtain ⟨n0, n1⟩ := bounds_u8 w2
  obtain ⟨m0, m1⟩ := bounds_u8 w3
  clear w0 w1 w2 w3
  have AW : Hid (∀ W, Calls Try.prog 23 #[] W fun e w' => e = .returned (.bool true) ∧ Bel W w') := awake_ok
  have HGR : Hid (∀ r q W, Calls Try.prog 22 #[.int .i64 r, .int .i64 q] W fun e w' => e = .returned (.agg #[.int .i64 0, .int .i64 1, .int .i64 0, .int .i64 r, .int .i64 q]) ∧ Bel W w') := grid_ok
  have hp1 := tm_in a0 x0 x1
  have hq1 := tm_in a1 y0 y1
  obtain ⟨p, hp⟩ : ∃ p, a0.tmod 1000 = p := ⟨_, rfl⟩
  obtain ⟨q, hq⟩ : ∃ p, a1.tmod 1000 = p := ⟨_, rfl⟩
  rw [hp] at hp1
  rw [hq] at hq1
  obtain ⟨p0, p1⟩ := hp1
  obtain ⟨q0, q1⟩ := hq1
  obtain ⟨n, hn⟩ : ∃ n, 1 + a2 = n := ⟨_, rfl⟩
  have nn1 : 1 ≤ n := by omega
  have nn2 : n ≤ 256 := by omega
  have nz : n ≠ 0 := by omega
  have hk1 : 0 ≤ a3.tmod n := Int.tmod_nonneg _ m0
  have hk2 : a3.tmod n < n := Int.tmod_lt_of_pos _ (by omega)
  obtain ⟨k, hk⟩ : ∃ k, a3.tmod n = k := ⟨_, rfl⟩
  rw [hk] at hk1 hk2
  obtain ⟨u, hu⟩ : ∃ u, hup (nu p q n k) n = u := ⟨_, rfl⟩
  obtain ⟨v, hv⟩ : ∃ u, hup (nu p q n (k + 1)) n = u := ⟨_, rfl⟩
  have F := line_facts p q n k nn1 hk1 (by omega) u v hu hv
  have b1 := mul_in (a := p) (b := n - k) (x := 999) (y := 256) p0 p1 (by omega) (by omega) (by decide)
  have b2 := mul_in (a := q) (b := k) (x := 999) (y := 256) q0 q1 (by omega) (by omega) (by decide)
  have huv : -999 ≤ u ∧ u ≤ 999 ∧ -999 ≤ v ∧ v ≤ 999 := by
    rcases Int.lt_or_le p q with h | h
    · have := F.1 (by omega); omega
    · have := F.2.1 h; omega
  have b3 := mul_in (a := u) (b := n) (x := 999) (y := 256) huv.1 huv.2.1 (by omega) (by omega) (by decide)
  obtain ⟨P, hP⟩ : ∃ P, p * (n - k) = P := ⟨_, rfl⟩
  obtain ⟨Q, hQ⟩ : ∃ P, q * k = P := ⟨_, rfl⟩
  obtain ⟨U, hU⟩ : ∃ P, u * n = P := ⟨_, rfl⟩
  rw [hP] at b1 F
  rw [hQ] at b2 F
  rw [hU] at b3 F
  obtain ⟨R, hR⟩ : ∃ R, P + Q - U = R := ⟨_, rfl⟩
  rw [hR] at F
  have wPQ : wrap64 (P + Q) = P + Q := IntWalk.wrap64_in _ (by omega)
  have wR : wrap64 R = R := IntWalk.wrap64_in _ (by omega)
  have w2R : wrap64 (2 * R) = 2 * R := IntWalk.wrap64_in _ (by omega)
  have wP : wrap64 P = P := IntWalk.wrap64_in _ (by omega)
  have wQ : wrap64 Q = Q := IntWalk.wrap64_in _ (by omega)
  have wU : wrap64 U = U := IntWalk.wrap64_in _ (by omega)
  have hasc := asc_pq p q n nn1 nn2 p0 p1 q0 q1
  have l1 : val [(100, p), (100 + n, q)] 3 n (100 + k) = (u, true) := by rw [line_at nn1 hk1 (by omega), hu]
  have l2 : val [(100, p), (100 + n, q)] 3 n (101 + k) = (v, true) := by rw [show 101 + k = 100 + (k + 1) by omega, line_at nn1 (by omega) (by omega), hv]
  have HAT : Hid (∀ (t : Int) W, 0 ≤ t → t ≤ 1000 → Bel (w.alloc (.cells (rs [(100, p), (100 + n, q)]).toArray 40)) W → Calls Try.prog 21 #[.slice (some ⟨w.heap.size, 0, none⟩) 2 2, .agg #[.int .i64 0, .int .i64 1, .int .i64 0, .int .i64 3, .int .i64 n], .int .i64 t] W _) := fun t W t0 t1 hW => at_ok (some ⟨w.heap.size, 0, none⟩) 2 2 [(100, p), (100 + n, q)] (by decide) hasc 0 1 0 3 n t (by unfold Gv; omega) t0 (by omega) W (zr_bk ((Bk.nw w _ _).bel hW) 2 rfl)
  have H1 : Hid (∀ W, Bel (w.alloc (.cells (rs [(100, p), (100 + n, q)]).toArray 40)) W → Calls Try.prog 21 #[.slice (some ⟨w.heap.size, 0, none⟩) 2 2, .agg #[.int .i64 0, .int .i64 1, .int .i64 0, .int .i64 3, .int .i64 n], .int .i64 (100 + k)] W fun e w' => e = .returned (.tuple #[.int .i64 u, .bool true]) ∧ Bel W w') := fun W hW => by
    have := HAT.out (100 + k) W (by omega) (by omega) hW
    rwa [l1] at this
  have H2 : Hid (∀ W, Bel (w.alloc (.cells (rs [(100, p), (100 + n, q)]).toArray 40)) W → Calls Try.prog 21 #[.slice (some ⟨w.heap.size, 0, none⟩) 2 2, .agg #[.int .i64 0, .int .i64 1, .int .i64 0, .int .i64 3, .int .i64 n], .int .i64 (101 + k)] W fun e w' => e = .returned (.tuple #[.int .i64 v, .bool true]) ∧ Bel W w') := fun W hW => by
    have := HAT.out (101 + k) W (by omega) (by omega) hW
    rwa [l2] at this
  obtain ⟨F1, F2, F3, F4⟩ := F
  have c1 : ¬ n ≤ 2 * R := by omega
  have c2 : ¬ 2 * R < -n := by omega
  clear HAT l1 l2 hasc hu hv b1 b2 b3 huv
  rcases Int.lt_trichotomy p q with hpq | hpq | hpq
  · obtain ⟨g1, g2, g3⟩ := F1 (by omega)
    have d1 : ¬ u < p := by omega
    have d2 : ¬ q < u := by omega
    have d3 : ¬ v < u := by omega
    have d4 : ¬ q ≤ p := by omega
    have d5 : p ≤ q := by omega
    clear F1 F2
    go_enter Try.func9, Try.ntmps9
    go_wp2_with fail
    go_at_call 22
    refine (HGR.out _ _ _).mono ?_
    rintro e w3 ⟨rfl, hb3⟩
    have HB3 : Hid (Bel (w.alloc (.cells (rs [(100, p), (100 + n, q)]).toArray 40)) w3) := hb3
    clear hb3
    go_wp2_with fail
    go_at_call 21
    refine (H1.out _ (by first | exact HB3.out | exact HB3.out.drwN _)).mono ?_
    rintro e w4 ⟨rfl, hb4⟩
    have HB4 : Hid (Bel (w.alloc (.cells (rs [(100, p), (100 + n, q)]).toArray 40)) w4) := by first | exact HB3.out.tr hb4 | exact (HB3.out.drwN _).tr hb4
    clear hb4
    go_wp2_with fail
    go_at_call 22
    refine (HGR.out _ _ _).mono ?_
    rintro e w5 ⟨rfl, hb5⟩
    have HB5 : Hid (Bel (w.alloc (.cells (rs [(100, p), (100 + n, q)]).toArray 40)) w5) := by first | exact HB4.out.tr hb5 | exact (HB4.out.drwN _).tr hb5
    clear hb5
    go_wp2_with fail
    go_at_call 21
    refine (H2.out _ (by first | exact HB5.out | exact HB5.out.drwN _)).mono ?_
    rintro e w6 ⟨rfl, hb6⟩
    have HB6 : Hid (Bel (w.alloc (.cells (rs [(100, p), (100 + n, q)]).toArray 40)) w6) := by first | exact HB5.out.tr hb6 | exact (HB5.out.drwN _).tr hb6
    clear hb6
    go_wp2_with (go_at_call 23; refine (AW.out _).mono ?_; rintro e w9 ⟨rfl, hb9⟩)
    go_ret
    exact ⟨rfl, ((Bel.rf.al _).tr (by first | exact HB6.out.tr hb9 | exact (HB6.out.drwN _).tr hb9)).bl⟩
  · subst hpq
    obtain ⟨g1, g2, g3⟩ := F1 (by omega)
    obtain ⟨g4, g5, g6⟩ := F2 (by omega)
    have d1 : ¬ u < p := by omega
    have d2 : ¬ p < u := by omega
    have d3 : ¬ v < u := by omega
    have d4 : ¬ u < v := by omega
    clear F1 F2
    go_enter Try.func9, Try.ntmps9
    go_wp2_with fail
    go_at_call 22
    refine (HGR.out _ _ _).mono ?_
    rintro e w3 ⟨rfl, hb3⟩
    have HB3 : Hid (Bel (w.alloc (.cells (rs [(100, p), (100 + n, p)]).toArray 40)) w3) := hb3
    clear hb3
    go_wp2_with fail
    go_at_call 21
    refine (H1.out _ (by first | exact HB3.out | exact HB3.out.drwN _)).mono ?_
    rintro e w4 ⟨rfl, hb4⟩
    have HB4 : Hid (Bel (w.alloc (.cells (rs [(100, p), (100 + n, p)]).toArray 40)) w4) := by first | exact HB3.out.tr hb4 | exact (HB3.out.drwN _).tr hb4
    clear hb4
    go_wp2_with fail
    go_at_call 22
    refine (HGR.out _ _ _).mono ?_
    rintro e w5 ⟨rfl, hb5⟩
    have HB5 : Hid (Bel (w.alloc (.cells (rs [(100, p), (100 + n, p)]).toArray 40)) w5) := by first | exact HB4.out.tr hb5 | exact (HB4.out.drwN _).tr hb5
    clear hb5
    go_wp2_with fail
    go_at_call 21
    refine (H2.out _ (by first | exact HB5.out | exact HB5.out.drwN _)).mono ?_
    rintro e w6 ⟨rfl, hb6⟩
    have HB6 : Hid (Bel (w.alloc (.cells (rs [(100, p), (100 + n, p)]).toArray 40)) w6) := by first | exact HB5.out.tr hb6 | exact (HB5.out.drwN _).tr hb6
    clear hb6
    go_wp2_with (go_at_call 23; refine (AW.out _).mono ?_; rintro e w9 ⟨rfl, hb9⟩)
    go_ret
    exact ⟨rfl, ((Bel.rf.al _).tr (by first | exact HB6.out.tr hb9 | exact (HB6.out.drwN _).tr hb9)).bl⟩
  · obtain ⟨g1, g2, g3⟩ := F2 (by omega)
    have d1 : ¬ u < q := by omega
    have d2 : ¬ p < u := by omega
    have d3 : ¬ u < v := by omega
    have d4 : ¬ p ≤ q := by omega
    have d5 : q ≤ p := by omega
    clear F1 F2
    go_enter Try.func9, Try.ntmps9
    go_wp2_with fail
    go_at_call 22
    refine (HGR.out _ _ _).mono ?_
    rintro e w3 ⟨rfl, hb3⟩
    have HB3 : Hid (Bel (w.alloc (.cells (rs [(100, p), (100 + n, q)]).toArray 40)) w3) := hb3
    clear hb3
    go_wp2_with fail
    go_at_call 21
    refine (H1.out _ (by first | exact HB3.out | exact HB3.out.drwN _)).mono ?_
    rintro e w4 ⟨rfl, hb4⟩
    have HB4 : Hid (Bel (w.alloc (.cells (rs [(100, p), (100 + n, q)]).toArray 40)) w4) := by first | exact HB3.out.tr hb4 | exact (HB3.out.drwN _).tr hb4
    clear hb4
    go_wp2_with fail
    go_at_call 22
    refine (HGR.out _ _ _).mono ?_
    rintro e w5 ⟨rfl, hb5⟩
    have HB5 : Hid (Bel (w.alloc (.cells (rs [(100, p), (100 + n, q)]).toArray 40)) w5) := by first | exact HB4.out.tr hb5 | exact (HB4.out.drwN _).tr hb5
    clear hb5
    go_wp2_with fail
    go_at_call 21
    refine (H2.out _ (by first | exact HB5.out | exact HB5.out.drwN _)).mono ?_
    rintro e w6 ⟨rfl, hb6⟩
    have HB6 : Hid (Bel (w.alloc (.cells (rs [(100, p), (100 + n, q)]).toArray 40)) w6) := by first | exact HB5.out.tr hb6 | exact (HB5.out.drwN _).tr hb6
    clear hb6
    go_wp2_with (go_at_call 23; refine (AW.out _).mono ?_; rintro e w9 ⟨rfl, hb9⟩)
    go_ret
    exact ⟨rfl, ((Bel.rf.al _).tr (by first | exact HB6.out.tr hb9 | exact (HB6.out.drwN _).tr hb9)).bl⟩

set_option maxRecDepth 100000 in
theorem lifted (os : Os) (started : os.Started) (H : Type) (enc : TypeId × Value → H) :
    ReturnsInHanded {} Try.checked os 9 .any (Rows.resampleBetweenSpec.pre6 enc Try.prog Try.f9 Rows.resampleBetweenRow.domain false) (Rows.resampleBetweenSpec.post enc Try.prog Try.f9 false true false false) := by
  refine returnsInHanded_of_change (C := Try.checked) own started (by kernel_rfl) Try.func9
    (ChangeSpec.witness6 (enc := enc) (C := Try.checked) false ⟨#[], #[.int .i16 0, .int .i16 0, .int .u8 0, .int .u8 0], []⟩ 8 (by kernel_rfl) (by kernel_rfl) (by kernel_rfl) (by kernel_rfl)) ?_
  intro W base args ds gs before hval0 hW hcnd _
  have hval : ∀ (j : Nat) t v, Try.f9.params[j]? = some t → args[j]? = some v → Value.okWide Try.prog W .any base t v := hval0
  have hW' := hW
  obtain ⟨p, q, hA0, hV, rfl, hfz, hnd⟩ := hW
  have hA : DataW.TrodAll enc Try.prog W 0 (fun _ => true) true Try.f9.params.toList args.toList ds p := hA0
  rw [Try.params9] at hA hval
  obtain ⟨v0, vs0, d0, ds0, p0, q0, hargs, rfl, rfl, h0, r0⟩ := trodAll_cons hA
  obtain ⟨v1, vs1, d1, ds1, p1, q1, rfl, rfl, rfl, h1, r1⟩ := trodAll_cons r0
  obtain ⟨v2, vs2, d2, ds2, p2, q2, rfl, rfl, rfl, h2, r2⟩ := trodAll_cons r1
  obtain ⟨v3, vs3, d3, ds3, p3, q3, rfl, rfl, rfl, h3, r3⟩ := trodAll_cons r2
  obtain ⟨rfl, rfl, rfl⟩ := trodAll_nil r3
  obtain rfl : args = #[v0, v1, v2, v3] := by cases args; simp_all
  obtain ⟨rfl, rfl⟩ := trodVars_none hV
  obtain ⟨a0, rfl, rfl, rfl, w0⟩ := open_int Try.underlying50 (hval 0 50 v0 rfl rfl) h0
  obtain ⟨a1, rfl, rfl, rfl, w1⟩ := open_int Try.underlying50 (hval 1 50 v1 rfl rfl) h1
  obtain ⟨a2, rfl, rfl, rfl, w2⟩ := open_int Try.underlying5 (hval 2 5 v2 rfl rfl) h2
  obtain ⟨a3, rfl, rfl, rfl, w3⟩ := open_int Try.underlying5 (hval 3 5 v3 rfl rfl) h3
  clear hA0 hval0
  simp only [List.append_nil] at hW'
  refine (walk a0 a1 a2 a3 w0 w1 w2 w3 W).mono fun e W' ⟨he, hg⟩ => ?_
  subst he
  exact ⟨_, rfl, post_below hW' (fun _ _ _ => (trodAll_cons_mk (shut_bool Try.underlying4 _) trodAll_mk0)) (fun sp _ => (trodAll_cons_mk (shut_int Try.underlying50 w0) (trodAll_cons_mk (shut_int Try.underlying50 w1) (trodAll_cons_mk (shut_int Try.underlying5 w2) (trodAll_cons_mk (shut_int Try.underlying5 w3) trodAll_mk0))))) (fun _ _ => rfl) rfl hg (ok_one (by kernel_rfl) rfl (okWide_bool_mk Try.underlying4 _))⟩

theorem over : Rows.resampleBetweenRow.holds Try.pinned (OpenSpec.ofChange Rows.resampleBetweenSpec) :=
  OpenClaim.holds_of_wide 9 Try.f9 rfl rfl rfl rfl rfl rfl rfl ⟨rfl, rfl, rfl, rfl, rfl⟩ rfl rfl rfl rfl rfl (by kernel_rfl) Try.func9 (by kernel_rfl)
    (of_decide_eq_true (by kernel_rfl)) (by unfold Func.isWrapper; first | (rw [if_pos (by decide +kernel)]; kernel_rfl) | (rw [if_neg (by decide +kernel)]; exact ⟨rfl, rfl⟩))
    (fun os started H enc _ => lifted os started H enc)

theorem proved : Rows.ResampleBetweenSaid :=
  over
end Go.Proofs.Ytdkibffbaamkkaa.resampleBetween
