/- The contract of squares.Sum. -/
import Derived.Test.YtkonknkoggfeaaaPieMath
import Derived.Test.YtkonknkoggfeaaaRatioAddLowP
import Derived.Test.YtkonknkoggfeaaaZi
import Derived.BigQuiet
import Derived.Test.YtkonknkoggfeaaaRegionInv
import Derived.Test.YtkonknkoggfeaaaPie4e
namespace Go.Proofs.Ytkonknkoggfeaaa.Pc
open Go.ChangeShapes Go.WideShapes Go.RowKit Wo Sr Wi Ra
set_option linter.unusedVariables false
theorem make_vl (n d : Int) (w : World) (h0 : 0 ≤ n) (h1 : 1 ≤ d) (h2 : n ≤ 2305843009213693952) (h3 : d ≤ 1152921504606846976) :
    Calls Try.prog 54 #[.int .i64 n, .int .i64 d] w fun r w' => ∃ t u, r = .returned (.tuple #[.agg #[.int .i64 t, .int .i64 u], .int .i64 0]) ∧ Vl t u n d ∧ Bel w w' := by
  have hv := vl_make h0 h1 h2 h3
  refine (make_in n d w h0 h1 (rin_yes hv.1.1) (by omega) (by omega)).mono ?_
  rintro e w' ⟨rfl, hb⟩
  exact ⟨_, _, rfl, hv, hb⟩
theorem make_vd (n d : Int) (h0 : 0 ≤ n) (h1 : 1 ≤ d) (h2 : n ≤ 2305843009213693952) (h3 : d ≤ 1152921504606846976) : ∃ t u, Vl t u n d ∧ ∀ w, Calls Try.prog 54 #[.int .i64 n, .int .i64 d] w fun r w' => r = .returned (.tuple #[.agg #[.int .i64 t, .int .i64 u], .int .i64 0]) ∧ Bel w w' := by
  have hv := vl_make h0 h1 h2 h3
  exact ⟨_, _, hv, fun w => make_in n d w h0 h1 (rin_yes hv.1.1) (by omega) (by omega)⟩
theorem add_vl (n d m e T T' C : Int) (h : Vl n d T C) (k : Vl m e T' C) (hC : 1 ≤ C) (hC2 : C ≤ 1152921504606846976) (hT : 0 ≤ T) (hT' : 0 ≤ T') (hT2 : T + T' ≤ 2305843009213693952) (w : World) :
    Calls Try.prog 55 #[.agg #[.int .i64 n, .int .i64 d], .agg #[.int .i64 m, .int .i64 e]] w fun r w' => ∃ t u, r = .returned (.tuple #[.agg #[.int .i64 t, .int .i64 u], .int .i64 0]) ∧ Vl t u (T + T') C ∧ Bel w w' := by
  obtain ⟨g, hg⟩ : ∃ g, gd d e = g := ⟨_, rfl⟩
  obtain ⟨s, hs⟩ : ∃ s, n * (e / g) + m * (d / g) = s := ⟨_, rfl⟩
  obtain ⟨c, hc⟩ : ∃ c, gd (s % g) g = c := ⟨_, rfl⟩
  have hsm := sum_small h k hC (by omega) hg hs
  obtain ⟨g1, c1, c2, s0, hr⟩ := add_facts h.1 k.1 hg hs hc
  have hv := vl_add h k hr hC hC2 hT hT' hT2
  refine (add_low n d m e g s c w (rv_yes h.1) (rv_yes k.1) hg hs (by omega) hc hv.1.1.2.1 hv.1.1.2.2.2).mono ?_
  rintro r w' ⟨rfl, hb⟩
  exact ⟨_, _, rfl, hv, hb⟩
theorem results_ct {fn : Func} {p u : Tmp} (h : fn.results = #[.cell p 39, .tmp u]) (tmps : Array Value) (w : World) (g : Nat) (a b : Value)
    (hp : tmps.getD p undef = .pointer (some ⟨g, 0, none⟩)) (hg : Bk w g 39 #[a, b]) :
    (results fn tmps).run Try.prog w = .ok (.tuple #[.agg #[a, b], tmps.getD u undef]) w := by
  have hp' : tmps[p]?.getD undef = .pointer (some ⟨g, 0, none⟩) := by simpa using hp
  have hl := run_loadVar_row (P := Try.prog) w g 39 39 #[a, b] (0, 0) _ hg Try.underlying39 rfl (by kernel_rfl)
  simp [results, h, hp', asAddr, hl]
set_option maxHeartbeats 4000000 in
set_option maxRecDepth 100000 in
theorem sum_ok (hd hs c c' n l : Nat) (D S : List Int) (sv : Nat → Nat) (sc C : Int) (n32 : n ≤ 8) (l1 : 1 ≤ l) (l32 : l ≤ 32) (hl : ∀ k, k < n → sv k + l ≤ sv (k + 1) ∧ sv (k + 1) ≤ sv k + l + 1) (hsv : ∀ k, k ≤ n → S.getD k 0 = (sv k : Int) ∧ sv k ≤ 32) (hD : ∀ k, k < n → -4096000 ≤ D.getD k 0 ∧ D.getD k 0 ≤ 4096000) (sc1 : 1 ≤ sc) (sc2 : sc ≤ 1024) (hC : sc * ((l : Int) * ((l : Int) + 1)) = C)
    (w : World) (h1 : Zi w (some ⟨hd, 0, none⟩) n D) (h2 : Zi w (some ⟨hs, 0, none⟩) (n + 1) S) :
    Calls Try.prog 35 #[.slice (some ⟨hd, 0, none⟩) n c, .slice (some ⟨hs, 0, none⟩) (n + 1) c', .int .i64 sc] w fun r w' => ∃ t u, r = .returned (.tuple #[.agg #[.int .i64 t, .int .i64 u], .int .i64 0]) ∧ Vl t u (tq (fun k => D.getD k 0 * D.getD k 0 * wq l (sv (k + 1) - sv k)) n) C ∧ Bel w w' := by
  obtain ⟨f, hf⟩ : ∃ f : Nat → Int, (fun k => D.getD k 0 * D.getD k 0 * wq l (sv (k + 1) - sv k)) = f := ⟨_, rfl⟩
  have q1 : 1 ≤ (l : Int) * ((l : Int) + 1) ∧ (l : Int) * ((l : Int) + 1) ≤ 1056 := by
    have a : (l : Int) * ((l : Int) + 1) ≤ 32 * 33 := Int.mul_le_mul (by omega) (by omega) (by omega) (by omega)
    have b : 1 * 1 ≤ (l : Int) * ((l : Int) + 1) := Int.mul_le_mul (by omega) (by omega) (by omega) (by omega)
    omega
  have C1 : 1 ≤ C ∧ C ≤ 1081344 := by
    rw [← hC]
    have a : sc * ((l : Int) * ((l : Int) + 1)) ≤ 1024 * 1056 := Int.mul_le_mul sc2 q1.2 (by omega) (by omega)
    have b : 1 * 1 ≤ sc * ((l : Int) * ((l : Int) + 1)) := Int.mul_le_mul sc1 q1.1 (by omega) (by omega)
    omega
  have hfb : ∀ k, k < n → 0 ≤ f k ∧ f k ≤ 553648128000000 := fun k hk => by
    have a := sq_bd (B := 4096000) (hD k hk).1 (hD k hk).2
    have b : 0 ≤ wq l (sv (k + 1) - sv k) ∧ wq l (sv (k + 1) - sv k) ≤ 33 := by unfold wq; split <;> omega
    rw [← hf]
    show 0 ≤ D.getD k 0 * D.getD k 0 * wq l (sv (k + 1) - sv k) ∧ D.getD k 0 * D.getD k 0 * wq l (sv (k + 1) - sv k) ≤ _
    refine ⟨Int.mul_nonneg a.1 b.1, ?_⟩
    have := Int.mul_le_mul a.2 b.2 b.1 (by omega)
    omega
  have HF := Lib.hid (And.intro hfb (And.intro hl (And.intro hsv (And.intro hD hf))))
  have H1 := Lib.hid h1
  have H2 := Lib.hid h2
  have HTQ : Hid (∀ t, t ≤ n → 0 ≤ tq f t ∧ tq f t ≤ 553648128000000 * (t : Int)) := fun t ht => ⟨tq_nn (n := n) (fun i hi => (hfb i hi).1) t ht, tq_hi (n := n) (fun i hi => (hfb i hi).2) t ht⟩
  have ni : (n : Int) ≤ 8 := by omega
  have HC := Lib.hid hC
  obtain ⟨C1, C2⟩ := C1
  rw [hf]
  clear hl hsv hD hfb hf h1 h2 q1 hC
  go_enter Try.func35, Try.ntmps35
  go_wp2
  go_loopw [16] (fun s16 wr => ∃ (t : Nat) (V : World) (nn dd : Int), V = wr ∧ t ≤ n ∧ s16 = .int .i64 (t : Int) ∧ Bk wr (w.heap.size + 1) 39 #[.int .i64 nn, .int .i64 dd] ∧ Bk wr w.heap.size 39 #[.int .i64 0, .int .i64 0] ∧ Vl nn dd (tq f t) C ∧ Bel w wr) (fun s16 _ => n - (intOf s16).toNat)
  case atStart => exact ⟨0, _, 0, 1, rfl, Nat.zero_le _, rfl, Bk.nq _ _ _ (by simp), (Bk.nw _ _ _).al _, vl_zero C, (Bel.rf.al _).al _⟩
  case round =>
    obtain ⟨t, wr, nn, dd, hwr, ht, rfl, htb, hrb, hv, hb⟩ := hrel
    subst hwr
    have HT := Lib.hid htb
    have HR := Lib.hid hrb
    have HV := Lib.hid hv
    have HB := Lib.hid hb
    have z1 := htb.lt
    rcases Nat.lt_or_ge t n with hlt | hge
    · have cd := (H1.out.bel hb).at t hlt
      have cs0 := (H2.out.bel hb).at t (by omega)
      have cs1 := (H2.out.bel hb).at (t + 1) (by omega)
      obtain ⟨e0, m0⟩ := HF.out.2.2.1 t (by omega)
      obtain ⟨e1, m1⟩ := HF.out.2.2.1 (t + 1) (by omega)
      rw [e0] at cs0
      rw [e1] at cs1
      have hll := HF.out.2.1 t hlt
      have hdb := HF.out.2.2.2.1 t hlt
      have hsq := sq_bd (B := 4096000) hdb.1 hdb.2
      have hwm := wq_mul (l := l) (k := sv (t + 1) - sv t) (by omega) (by omega)
      have hft : f t = D.getD t 0 * D.getD t 0 * wq l (sv (t + 1) - sv t) := by rw [← HF.out.2.2.2.2]
      obtain ⟨ln, hln⟩ : ∃ k, sv (t + 1) - sv t = k := ⟨_, rfl⟩
      rw [hln] at hwm hft
      obtain ⟨s0, hs0⟩ : ∃ k, sv t = k := ⟨_, rfl⟩
      obtain ⟨s1, hs1⟩ : ∃ k, sv (t + 1) = k := ⟨_, rfl⟩
      rw [hs0] at cs0 m0
      rw [hs1] at cs1 m1
      have hlni : (s1 : Int) - (s0 : Int) = (ln : Int) := by omega
      have hln1 : 1 ≤ (ln : Int) ∧ (ln : Int) ≤ 32 := by omega
      obtain ⟨x, hx⟩ : ∃ x, D.getD t 0 = x := ⟨_, rfl⟩
      rw [hx] at cd hsq hft hdb
      obtain ⟨r, hr⟩ : ∃ r, x * x = r := ⟨_, rfl⟩
      rw [hr] at hsq hft
      have hdn : 1 ≤ sc * (ln : Int) ∧ sc * (ln : Int) ≤ 32768 := by
        have a : sc * (ln : Int) ≤ 1024 * 32 := Int.mul_le_mul sc2 hln1.2 (by omega) (by omega)
        have b : 1 * 1 ≤ sc * (ln : Int) := Int.mul_le_mul sc1 hln1.1 (by omega) (by omega)
        omega
      obtain ⟨dn, hdn'⟩ : ∃ d, sc * (ln : Int) = d := ⟨_, rfl⟩
      rw [hdn'] at hdn
      obtain ⟨t', u', hvl, hmk⟩ := make_vd r dn hsq.1 hdn.1 (by omega) (by omega)
      have MK := Lib.hid hmk
      clear hmk
      -- the part as a fraction of C
      have HVP : Hid (∀ t' u', Vl t' u' r dn → Vl t' u' (f t) C) := fun t' u' h => by
        have h2 := vl_scale (k := wq l ln) h
        rw [← hft] at h2
        rwa [show dn * wq l ln = C by rw [← hdn', Int.mul_assoc, hwm]; exact HC.out] at h2
      obtain ⟨t1, ht1⟩ : ∃ k, t + 1 = k := ⟨_, rfl⟩
      rw [ht1] at cs1
      have hti : (t : Int) + 1 = (t1 : Int) := by omega
      have ti : (t : Int) < (n : Int) := by omega
      have tn1 : (t : Int) < ((n + 1 : Nat) : Int) := by omega
      have tn2 : (t1 : Int) < ((n + 1 : Nat) : Int) := by omega
      have tn3 : (t : Int) < (n : Int) + 1 := by omega
      have tn4 : (t1 : Int) < (n : Int) + 1 := by omega
      have wx : IntKind.i64.wrap r = r := IntWalk.i64_in _ (by omega)
      have wl : IntKind.i64.wrap (ln : Int) = (ln : Int) := IntWalk.i64_in _ (by omega)
      have wd : IntKind.i64.wrap dn = dn := IntWalk.i64_in _ (by omega)
      have wt1 : IntKind.i64.wrap (t1 : Int) = (t1 : Int) := IntWalk.i64_in _ (by omega)
      have HTT := Lib.hid (And.intro ht1 (And.intro hx hft))
      have HSZ := Lib.hid (And.intro hs0 (And.intro hs1 hln))
      clear htb hrb hv hb hll hdb hwm hft hln hs0 hs1 hx e0 e1 m0 m1 ht1
      go_wp2
      have HCS := Lib.hid (And.intro cs0 cs1)
      clear cs0 cs1
      obtain ⟨J3, HJ⟩ : ∃ J3 : Array Bool → Act → World → Prop, Hid (∀ li a W, J3 li a W ↔ ∃ v : Nat → Value, a = { tmps := #[.slice (some ⟨hd, 0, none⟩) n c, .slice (some ⟨hs, 0, none⟩) (n + 1) c', .int .i64 sc, undef, undef, undef, .pointer (some ⟨w.heap.size, 0, none⟩), u7, .pointer (some ⟨w.heap.size + 1, 0, none⟩), .int .i64 (t : Int), .int .i64 x, v 19, v 21, .agg #[.int .i64 0, .int .i64 1], .slice (some ⟨hd, 0, none⟩) n c, .int .i64 (n : Int), .int .i64 (t : Int), .bool true, .int .i64 (t : Int), .pointer (some ⟨hd, t, none⟩), .int .i64 x, v 16, v 0, v 1, v 2, v 3, v 4, v 5, v 6, v 7, v 8, v 9, v 10, v 11, v 12, v 13, v 14, v 15, v 17, v 18, u40, u41, u42, u43, u44, u45, u46, u47, u48, u49, u50, u51, u52, u53, u54, undef], defers := [] } ∧ (li.getD 0 false = true → v 0 = .int .i64 x) ∧ (li.getD 1 false = true → v 1 = .int .i64 x) ∧ (li.getD 2 false = true → v 2 = .int .i64 r) ∧ (li.getD 3 false = true → v 3 = .int .i64 sc) ∧ (li.getD 4 false = true → v 4 = (.slice (some ⟨hs, 0, none⟩) (n + 1) c')) ∧ (li.getD 5 false = true → v 5 = .int .i64 (t : Int)) ∧ (li.getD 6 false = true → v 6 = .int .i64 (t1 : Int)) ∧ (li.getD 7 false = true → v 7 = .pointer (some ⟨hs, t1, none⟩)) ∧ (li.getD 8 false = true → v 8 = .int .i64 (s1 : Int)) ∧ (li.getD 9 false = true → v 9 = (.slice (some ⟨hs, 0, none⟩) (n + 1) c')) ∧ (li.getD 10 false = true → v 10 = .int .i64 (t : Int)) ∧ (li.getD 11 false = true → v 11 = .pointer (some ⟨hs, t, none⟩)) ∧ (li.getD 12 false = true → v 12 = .int .i64 (s0 : Int)) ∧ (li.getD 13 false = true → v 13 = .int .i64 (ln : Int)) ∧ (li.getD 14 false = true → v 14 = .int .i64 dn) ∧ (li.getD 15 false = true → v 15 = (.tuple #[.agg #[.int .i64 t', .int .i64 u'], .int .i64 0])) ∧ (li.getD 16 false = true → v 16 = (.tuple #[.agg #[.int .i64 t', .int .i64 u'], .int .i64 0])) ∧ (li.getD 17 false = true → v 17 = (.agg #[.int .i64 t', .int .i64 u'])) ∧ (li.getD 18 false = true → v 18 = .int .i64 0) ∧ (li.getD 21 false = true → v 21 = .int .i64 0) ∧ Bel wr W ∧ (li.getD 19 false = true → ∃ g, wr.heap.size ≤ g ∧ v 19 = .pointer (some ⟨g, 0, none⟩) ∧ (li.getD 20 false = false → Bk W g 39 #[.int .i64 0, .int .i64 0]) ∧ (li.getD 20 false = true → Bk W g 39 #[.int .i64 t', .int .i64 u']))) := ⟨_, fun _ _ _ => Iff.rfl⟩
      refine Ri9.wp_region_inv2 (by kernel_rfl) (by intro i o ho; (rcases i with _ | _ | _ | _ | _ | _ | _ | _ | _ | _ | _ | _ | _ | _ | _ | _ | _ | _ | _ | _ | _ | _ | i) <;> first | (cases ho; decide) | (exact absurd ho (by simp))) J3 ?_ ?_ ?_
      · refine (HJ.out _ _ _).2 ⟨fun q => (#[u22, u23, u24, u25, u26, u27, u28, u29, u30, u31, u32, u33, u34, u35, u36, u37, u21, u38, u39, u11, undef, u12] : Array Value).getD q undef, by rfl, (fun h => by rw [rep_get] at h; cases h), (fun h => by rw [rep_get] at h; cases h), (fun h => by rw [rep_get] at h; cases h), (fun h => by rw [rep_get] at h; cases h), (fun h => by rw [rep_get] at h; cases h), (fun h => by rw [rep_get] at h; cases h), (fun h => by rw [rep_get] at h; cases h), (fun h => by rw [rep_get] at h; cases h), (fun h => by rw [rep_get] at h; cases h), (fun h => by rw [rep_get] at h; cases h), (fun h => by rw [rep_get] at h; cases h), (fun h => by rw [rep_get] at h; cases h), (fun h => by rw [rep_get] at h; cases h), (fun h => by rw [rep_get] at h; cases h), (fun h => by rw [rep_get] at h; cases h), (fun h => by rw [rep_get] at h; cases h), (fun h => by rw [rep_get] at h; cases h), (fun h => by rw [rep_get] at h; cases h), (fun h => by rw [rep_get] at h; cases h), (fun h => by rw [rep_get] at h; cases h), Bel.rf.drw, ?_⟩
        intro h; rw [rep_get] at h; cases h
      · intro i o ho li a W hcl hJ3 haft hun
        obtain ⟨v, rfl, f0, f1, f2, f3, f4, f5, f6, f7, f8, f9, f10, f11, f12, f13, f14, f15, f16, f17, f18, f21, hB, h19⟩ := (HJ.out _ _ _).1 hJ3
        have HC := Lib.hid hcl
        have HAF := Lib.hid haft
        have HBW := Lib.hid hB
        have H19 := Lib.hid h19
        clear hcl hJ3 haft hB h19
        rcases i with _ | _ | _ | _ | _ | _ | _ | _ | _ | _ | _ | _ | _ | _ | _ | _ | _ | _ | _ | _ | _ | _ | i
        · -- operation 0
          cases ho
          have HFF := Lib.hid (And.intro f0 ( And.intro f1 ( And.intro f2 ( And.intro f3 ( And.intro f4 ( And.intro f5 ( And.intro f6 ( And.intro f7 ( And.intro f8 ( And.intro f9 ( And.intro f10 ( And.intro f11 ( And.intro f12 ( And.intro f13 ( And.intro f14 ( And.intro f15 ( And.intro f16 ( And.intro f17 ( And.intro f18 (f21))))))))))))))))))))
          clear f0 f1 f2 f3 f4 f5 f6 f7 f8 f9 f10 f11 f12 f13 f14 f15 f16 f17 f18 f21 hun
          refine Ri9.wpOp_list rfl ?_
          go_wp2
          refine (HJ.out _ _ _).2 ⟨fun k => if k = 0 then .int .i64 x else v k, by simp [], (fun _ => rfl), (fun h => HFF.out.2.1 (by rw [getD_set_ne _ (by decide)] at h; exact h)), (fun h => HFF.out.2.2.1 (by rw [getD_set_ne _ (by decide)] at h; exact h)), (fun h => HFF.out.2.2.2.1 (by rw [getD_set_ne _ (by decide)] at h; exact h)), (fun h => HFF.out.2.2.2.2.1 (by rw [getD_set_ne _ (by decide)] at h; exact h)), (fun h => HFF.out.2.2.2.2.2.1 (by rw [getD_set_ne _ (by decide)] at h; exact h)), (fun h => HFF.out.2.2.2.2.2.2.1 (by rw [getD_set_ne _ (by decide)] at h; exact h)), (fun h => HFF.out.2.2.2.2.2.2.2.1 (by rw [getD_set_ne _ (by decide)] at h; exact h)), (fun h => HFF.out.2.2.2.2.2.2.2.2.1 (by rw [getD_set_ne _ (by decide)] at h; exact h)), (fun h => HFF.out.2.2.2.2.2.2.2.2.2.1 (by rw [getD_set_ne _ (by decide)] at h; exact h)), (fun h => HFF.out.2.2.2.2.2.2.2.2.2.2.1 (by rw [getD_set_ne _ (by decide)] at h; exact h)), (fun h => HFF.out.2.2.2.2.2.2.2.2.2.2.2.1 (by rw [getD_set_ne _ (by decide)] at h; exact h)), (fun h => HFF.out.2.2.2.2.2.2.2.2.2.2.2.2.1 (by rw [getD_set_ne _ (by decide)] at h; exact h)), (fun h => HFF.out.2.2.2.2.2.2.2.2.2.2.2.2.2.1 (by rw [getD_set_ne _ (by decide)] at h; exact h)), (fun h => HFF.out.2.2.2.2.2.2.2.2.2.2.2.2.2.2.1 (by rw [getD_set_ne _ (by decide)] at h; exact h)), (fun h => HFF.out.2.2.2.2.2.2.2.2.2.2.2.2.2.2.2.1 (by rw [getD_set_ne _ (by decide)] at h; exact h)), (fun h => HFF.out.2.2.2.2.2.2.2.2.2.2.2.2.2.2.2.2.1 (by rw [getD_set_ne _ (by decide)] at h; exact h)), (fun h => HFF.out.2.2.2.2.2.2.2.2.2.2.2.2.2.2.2.2.2.1 (by rw [getD_set_ne _ (by decide)] at h; exact h)), (fun h => HFF.out.2.2.2.2.2.2.2.2.2.2.2.2.2.2.2.2.2.2.1 (by rw [getD_set_ne _ (by decide)] at h; exact h)), (fun h => HFF.out.2.2.2.2.2.2.2.2.2.2.2.2.2.2.2.2.2.2.2 (by rw [getD_set_ne _ (by decide)] at h; exact h)), HBW.out, ?_⟩
          intro h
          rw [getD_set_ne _ (by decide)] at h
          obtain ⟨g, hgl, e19, z1, z2⟩ := H19.out h
          rw [getD_set_ne _ (by decide)]
          exact ⟨g, hgl, by simp [e19], fun h => (z1 h), fun h => (z2 h)⟩
        · -- operation 1
          cases ho
          have HFF := Lib.hid (And.intro f0 ( And.intro f1 ( And.intro f2 ( And.intro f3 ( And.intro f4 ( And.intro f5 ( And.intro f6 ( And.intro f7 ( And.intro f8 ( And.intro f9 ( And.intro f10 ( And.intro f11 ( And.intro f12 ( And.intro f13 ( And.intro f14 ( And.intro f15 ( And.intro f16 ( And.intro f17 ( And.intro f18 (f21))))))))))))))))))))
          clear f0 f1 f2 f3 f4 f5 f6 f7 f8 f9 f10 f11 f12 f13 f14 f15 f16 f17 f18 f21 hun
          refine Ri9.wpOp_list rfl ?_
          go_wp2
          refine (HJ.out _ _ _).2 ⟨fun k => if k = 1 then .int .i64 x else v k, by simp [], (fun h => HFF.out.1 (by rw [getD_set_ne _ (by decide)] at h; exact h)), (fun _ => rfl), (fun h => HFF.out.2.2.1 (by rw [getD_set_ne _ (by decide)] at h; exact h)), (fun h => HFF.out.2.2.2.1 (by rw [getD_set_ne _ (by decide)] at h; exact h)), (fun h => HFF.out.2.2.2.2.1 (by rw [getD_set_ne _ (by decide)] at h; exact h)), (fun h => HFF.out.2.2.2.2.2.1 (by rw [getD_set_ne _ (by decide)] at h; exact h)), (fun h => HFF.out.2.2.2.2.2.2.1 (by rw [getD_set_ne _ (by decide)] at h; exact h)), (fun h => HFF.out.2.2.2.2.2.2.2.1 (by rw [getD_set_ne _ (by decide)] at h; exact h)), (fun h => HFF.out.2.2.2.2.2.2.2.2.1 (by rw [getD_set_ne _ (by decide)] at h; exact h)), (fun h => HFF.out.2.2.2.2.2.2.2.2.2.1 (by rw [getD_set_ne _ (by decide)] at h; exact h)), (fun h => HFF.out.2.2.2.2.2.2.2.2.2.2.1 (by rw [getD_set_ne _ (by decide)] at h; exact h)), (fun h => HFF.out.2.2.2.2.2.2.2.2.2.2.2.1 (by rw [getD_set_ne _ (by decide)] at h; exact h)), (fun h => HFF.out.2.2.2.2.2.2.2.2.2.2.2.2.1 (by rw [getD_set_ne _ (by decide)] at h; exact h)), (fun h => HFF.out.2.2.2.2.2.2.2.2.2.2.2.2.2.1 (by rw [getD_set_ne _ (by decide)] at h; exact h)), (fun h => HFF.out.2.2.2.2.2.2.2.2.2.2.2.2.2.2.1 (by rw [getD_set_ne _ (by decide)] at h; exact h)), (fun h => HFF.out.2.2.2.2.2.2.2.2.2.2.2.2.2.2.2.1 (by rw [getD_set_ne _ (by decide)] at h; exact h)), (fun h => HFF.out.2.2.2.2.2.2.2.2.2.2.2.2.2.2.2.2.1 (by rw [getD_set_ne _ (by decide)] at h; exact h)), (fun h => HFF.out.2.2.2.2.2.2.2.2.2.2.2.2.2.2.2.2.2.1 (by rw [getD_set_ne _ (by decide)] at h; exact h)), (fun h => HFF.out.2.2.2.2.2.2.2.2.2.2.2.2.2.2.2.2.2.2.1 (by rw [getD_set_ne _ (by decide)] at h; exact h)), (fun h => HFF.out.2.2.2.2.2.2.2.2.2.2.2.2.2.2.2.2.2.2.2 (by rw [getD_set_ne _ (by decide)] at h; exact h)), HBW.out, ?_⟩
          intro h
          rw [getD_set_ne _ (by decide)] at h
          obtain ⟨g, hgl, e19, z1, z2⟩ := H19.out h
          rw [getD_set_ne _ (by decide)]
          exact ⟨g, hgl, by simp [e19], fun h => (z1 h), fun h => (z2 h)⟩
        · -- operation 2
          cases ho
          have e0 := f0 (HAF.out ⟨0, .data⟩ (by simp) rfl)
          have e1 := f1 (HAF.out ⟨1, .data⟩ (by simp) rfl)
          have HFF := Lib.hid (And.intro f0 ( And.intro f1 ( And.intro f2 ( And.intro f3 ( And.intro f4 ( And.intro f5 ( And.intro f6 ( And.intro f7 ( And.intro f8 ( And.intro f9 ( And.intro f10 ( And.intro f11 ( And.intro f12 ( And.intro f13 ( And.intro f14 ( And.intro f15 ( And.intro f16 ( And.intro f17 ( And.intro f18 (f21))))))))))))))))))))
          clear f0 f1 f2 f3 f4 f5 f6 f7 f8 f9 f10 f11 f12 f13 f14 f15 f16 f17 f18 f21 hun
          refine Ri9.wpOp_list rfl ?_
          go_wp2
          refine (HJ.out _ _ _).2 ⟨fun k => if k = 2 then .int .i64 r else v k, by simp [e0, e1], (fun h => HFF.out.1 (by rw [getD_set_ne _ (by decide)] at h; exact h)), (fun h => HFF.out.2.1 (by rw [getD_set_ne _ (by decide)] at h; exact h)), (fun _ => rfl), (fun h => HFF.out.2.2.2.1 (by rw [getD_set_ne _ (by decide)] at h; exact h)), (fun h => HFF.out.2.2.2.2.1 (by rw [getD_set_ne _ (by decide)] at h; exact h)), (fun h => HFF.out.2.2.2.2.2.1 (by rw [getD_set_ne _ (by decide)] at h; exact h)), (fun h => HFF.out.2.2.2.2.2.2.1 (by rw [getD_set_ne _ (by decide)] at h; exact h)), (fun h => HFF.out.2.2.2.2.2.2.2.1 (by rw [getD_set_ne _ (by decide)] at h; exact h)), (fun h => HFF.out.2.2.2.2.2.2.2.2.1 (by rw [getD_set_ne _ (by decide)] at h; exact h)), (fun h => HFF.out.2.2.2.2.2.2.2.2.2.1 (by rw [getD_set_ne _ (by decide)] at h; exact h)), (fun h => HFF.out.2.2.2.2.2.2.2.2.2.2.1 (by rw [getD_set_ne _ (by decide)] at h; exact h)), (fun h => HFF.out.2.2.2.2.2.2.2.2.2.2.2.1 (by rw [getD_set_ne _ (by decide)] at h; exact h)), (fun h => HFF.out.2.2.2.2.2.2.2.2.2.2.2.2.1 (by rw [getD_set_ne _ (by decide)] at h; exact h)), (fun h => HFF.out.2.2.2.2.2.2.2.2.2.2.2.2.2.1 (by rw [getD_set_ne _ (by decide)] at h; exact h)), (fun h => HFF.out.2.2.2.2.2.2.2.2.2.2.2.2.2.2.1 (by rw [getD_set_ne _ (by decide)] at h; exact h)), (fun h => HFF.out.2.2.2.2.2.2.2.2.2.2.2.2.2.2.2.1 (by rw [getD_set_ne _ (by decide)] at h; exact h)), (fun h => HFF.out.2.2.2.2.2.2.2.2.2.2.2.2.2.2.2.2.1 (by rw [getD_set_ne _ (by decide)] at h; exact h)), (fun h => HFF.out.2.2.2.2.2.2.2.2.2.2.2.2.2.2.2.2.2.1 (by rw [getD_set_ne _ (by decide)] at h; exact h)), (fun h => HFF.out.2.2.2.2.2.2.2.2.2.2.2.2.2.2.2.2.2.2.1 (by rw [getD_set_ne _ (by decide)] at h; exact h)), (fun h => HFF.out.2.2.2.2.2.2.2.2.2.2.2.2.2.2.2.2.2.2.2 (by rw [getD_set_ne _ (by decide)] at h; exact h)), HBW.out, ?_⟩
          intro h
          rw [getD_set_ne _ (by decide)] at h
          obtain ⟨g, hgl, e19, z1, z2⟩ := H19.out h
          rw [getD_set_ne _ (by decide)]
          exact ⟨g, hgl, by simp [e19], fun h => (z1 h), fun h => (z2 h)⟩
        · -- operation 3
          cases ho
          have HFF := Lib.hid (And.intro f0 ( And.intro f1 ( And.intro f2 ( And.intro f3 ( And.intro f4 ( And.intro f5 ( And.intro f6 ( And.intro f7 ( And.intro f8 ( And.intro f9 ( And.intro f10 ( And.intro f11 ( And.intro f12 ( And.intro f13 ( And.intro f14 ( And.intro f15 ( And.intro f16 ( And.intro f17 ( And.intro f18 (f21))))))))))))))))))))
          clear f0 f1 f2 f3 f4 f5 f6 f7 f8 f9 f10 f11 f12 f13 f14 f15 f16 f17 f18 f21 hun
          refine Ri9.wpOp_list rfl ?_
          go_wp2
          refine (HJ.out _ _ _).2 ⟨fun k => if k = 3 then .int .i64 sc else v k, by simp [], (fun h => HFF.out.1 (by rw [getD_set_ne _ (by decide)] at h; exact h)), (fun h => HFF.out.2.1 (by rw [getD_set_ne _ (by decide)] at h; exact h)), (fun h => HFF.out.2.2.1 (by rw [getD_set_ne _ (by decide)] at h; exact h)), (fun _ => rfl), (fun h => HFF.out.2.2.2.2.1 (by rw [getD_set_ne _ (by decide)] at h; exact h)), (fun h => HFF.out.2.2.2.2.2.1 (by rw [getD_set_ne _ (by decide)] at h; exact h)), (fun h => HFF.out.2.2.2.2.2.2.1 (by rw [getD_set_ne _ (by decide)] at h; exact h)), (fun h => HFF.out.2.2.2.2.2.2.2.1 (by rw [getD_set_ne _ (by decide)] at h; exact h)), (fun h => HFF.out.2.2.2.2.2.2.2.2.1 (by rw [getD_set_ne _ (by decide)] at h; exact h)), (fun h => HFF.out.2.2.2.2.2.2.2.2.2.1 (by rw [getD_set_ne _ (by decide)] at h; exact h)), (fun h => HFF.out.2.2.2.2.2.2.2.2.2.2.1 (by rw [getD_set_ne _ (by decide)] at h; exact h)), (fun h => HFF.out.2.2.2.2.2.2.2.2.2.2.2.1 (by rw [getD_set_ne _ (by decide)] at h; exact h)), (fun h => HFF.out.2.2.2.2.2.2.2.2.2.2.2.2.1 (by rw [getD_set_ne _ (by decide)] at h; exact h)), (fun h => HFF.out.2.2.2.2.2.2.2.2.2.2.2.2.2.1 (by rw [getD_set_ne _ (by decide)] at h; exact h)), (fun h => HFF.out.2.2.2.2.2.2.2.2.2.2.2.2.2.2.1 (by rw [getD_set_ne _ (by decide)] at h; exact h)), (fun h => HFF.out.2.2.2.2.2.2.2.2.2.2.2.2.2.2.2.1 (by rw [getD_set_ne _ (by decide)] at h; exact h)), (fun h => HFF.out.2.2.2.2.2.2.2.2.2.2.2.2.2.2.2.2.1 (by rw [getD_set_ne _ (by decide)] at h; exact h)), (fun h => HFF.out.2.2.2.2.2.2.2.2.2.2.2.2.2.2.2.2.2.1 (by rw [getD_set_ne _ (by decide)] at h; exact h)), (fun h => HFF.out.2.2.2.2.2.2.2.2.2.2.2.2.2.2.2.2.2.2.1 (by rw [getD_set_ne _ (by decide)] at h; exact h)), (fun h => HFF.out.2.2.2.2.2.2.2.2.2.2.2.2.2.2.2.2.2.2.2 (by rw [getD_set_ne _ (by decide)] at h; exact h)), HBW.out, ?_⟩
          intro h
          rw [getD_set_ne _ (by decide)] at h
          obtain ⟨g, hgl, e19, z1, z2⟩ := H19.out h
          rw [getD_set_ne _ (by decide)]
          exact ⟨g, hgl, by simp [e19], fun h => (z1 h), fun h => (z2 h)⟩
        · -- operation 4
          cases ho
          have HFF := Lib.hid (And.intro f0 ( And.intro f1 ( And.intro f2 ( And.intro f3 ( And.intro f4 ( And.intro f5 ( And.intro f6 ( And.intro f7 ( And.intro f8 ( And.intro f9 ( And.intro f10 ( And.intro f11 ( And.intro f12 ( And.intro f13 ( And.intro f14 ( And.intro f15 ( And.intro f16 ( And.intro f17 ( And.intro f18 (f21))))))))))))))))))))
          clear f0 f1 f2 f3 f4 f5 f6 f7 f8 f9 f10 f11 f12 f13 f14 f15 f16 f17 f18 f21 hun
          refine Ri9.wpOp_list rfl ?_
          go_wp2
          refine (HJ.out _ _ _).2 ⟨fun k => if k = 4 then (.slice (some ⟨hs, 0, none⟩) (n + 1) c') else v k, by simp [], (fun h => HFF.out.1 (by rw [getD_set_ne _ (by decide)] at h; exact h)), (fun h => HFF.out.2.1 (by rw [getD_set_ne _ (by decide)] at h; exact h)), (fun h => HFF.out.2.2.1 (by rw [getD_set_ne _ (by decide)] at h; exact h)), (fun h => HFF.out.2.2.2.1 (by rw [getD_set_ne _ (by decide)] at h; exact h)), (fun _ => rfl), (fun h => HFF.out.2.2.2.2.2.1 (by rw [getD_set_ne _ (by decide)] at h; exact h)), (fun h => HFF.out.2.2.2.2.2.2.1 (by rw [getD_set_ne _ (by decide)] at h; exact h)), (fun h => HFF.out.2.2.2.2.2.2.2.1 (by rw [getD_set_ne _ (by decide)] at h; exact h)), (fun h => HFF.out.2.2.2.2.2.2.2.2.1 (by rw [getD_set_ne _ (by decide)] at h; exact h)), (fun h => HFF.out.2.2.2.2.2.2.2.2.2.1 (by rw [getD_set_ne _ (by decide)] at h; exact h)), (fun h => HFF.out.2.2.2.2.2.2.2.2.2.2.1 (by rw [getD_set_ne _ (by decide)] at h; exact h)), (fun h => HFF.out.2.2.2.2.2.2.2.2.2.2.2.1 (by rw [getD_set_ne _ (by decide)] at h; exact h)), (fun h => HFF.out.2.2.2.2.2.2.2.2.2.2.2.2.1 (by rw [getD_set_ne _ (by decide)] at h; exact h)), (fun h => HFF.out.2.2.2.2.2.2.2.2.2.2.2.2.2.1 (by rw [getD_set_ne _ (by decide)] at h; exact h)), (fun h => HFF.out.2.2.2.2.2.2.2.2.2.2.2.2.2.2.1 (by rw [getD_set_ne _ (by decide)] at h; exact h)), (fun h => HFF.out.2.2.2.2.2.2.2.2.2.2.2.2.2.2.2.1 (by rw [getD_set_ne _ (by decide)] at h; exact h)), (fun h => HFF.out.2.2.2.2.2.2.2.2.2.2.2.2.2.2.2.2.1 (by rw [getD_set_ne _ (by decide)] at h; exact h)), (fun h => HFF.out.2.2.2.2.2.2.2.2.2.2.2.2.2.2.2.2.2.1 (by rw [getD_set_ne _ (by decide)] at h; exact h)), (fun h => HFF.out.2.2.2.2.2.2.2.2.2.2.2.2.2.2.2.2.2.2.1 (by rw [getD_set_ne _ (by decide)] at h; exact h)), (fun h => HFF.out.2.2.2.2.2.2.2.2.2.2.2.2.2.2.2.2.2.2.2 (by rw [getD_set_ne _ (by decide)] at h; exact h)), HBW.out, ?_⟩
          intro h
          rw [getD_set_ne _ (by decide)] at h
          obtain ⟨g, hgl, e19, z1, z2⟩ := H19.out h
          rw [getD_set_ne _ (by decide)]
          exact ⟨g, hgl, by simp [e19], fun h => (z1 h), fun h => (z2 h)⟩
        · -- operation 5
          cases ho
          have HFF := Lib.hid (And.intro f0 ( And.intro f1 ( And.intro f2 ( And.intro f3 ( And.intro f4 ( And.intro f5 ( And.intro f6 ( And.intro f7 ( And.intro f8 ( And.intro f9 ( And.intro f10 ( And.intro f11 ( And.intro f12 ( And.intro f13 ( And.intro f14 ( And.intro f15 ( And.intro f16 ( And.intro f17 ( And.intro f18 (f21))))))))))))))))))))
          clear f0 f1 f2 f3 f4 f5 f6 f7 f8 f9 f10 f11 f12 f13 f14 f15 f16 f17 f18 f21 hun
          refine Ri9.wpOp_list rfl ?_
          go_wp2
          refine (HJ.out _ _ _).2 ⟨fun k => if k = 5 then .int .i64 (t : Int) else v k, by simp [], (fun h => HFF.out.1 (by rw [getD_set_ne _ (by decide)] at h; exact h)), (fun h => HFF.out.2.1 (by rw [getD_set_ne _ (by decide)] at h; exact h)), (fun h => HFF.out.2.2.1 (by rw [getD_set_ne _ (by decide)] at h; exact h)), (fun h => HFF.out.2.2.2.1 (by rw [getD_set_ne _ (by decide)] at h; exact h)), (fun h => HFF.out.2.2.2.2.1 (by rw [getD_set_ne _ (by decide)] at h; exact h)), (fun _ => rfl), (fun h => HFF.out.2.2.2.2.2.2.1 (by rw [getD_set_ne _ (by decide)] at h; exact h)), (fun h => HFF.out.2.2.2.2.2.2.2.1 (by rw [getD_set_ne _ (by decide)] at h; exact h)), (fun h => HFF.out.2.2.2.2.2.2.2.2.1 (by rw [getD_set_ne _ (by decide)] at h; exact h)), (fun h => HFF.out.2.2.2.2.2.2.2.2.2.1 (by rw [getD_set_ne _ (by decide)] at h; exact h)), (fun h => HFF.out.2.2.2.2.2.2.2.2.2.2.1 (by rw [getD_set_ne _ (by decide)] at h; exact h)), (fun h => HFF.out.2.2.2.2.2.2.2.2.2.2.2.1 (by rw [getD_set_ne _ (by decide)] at h; exact h)), (fun h => HFF.out.2.2.2.2.2.2.2.2.2.2.2.2.1 (by rw [getD_set_ne _ (by decide)] at h; exact h)), (fun h => HFF.out.2.2.2.2.2.2.2.2.2.2.2.2.2.1 (by rw [getD_set_ne _ (by decide)] at h; exact h)), (fun h => HFF.out.2.2.2.2.2.2.2.2.2.2.2.2.2.2.1 (by rw [getD_set_ne _ (by decide)] at h; exact h)), (fun h => HFF.out.2.2.2.2.2.2.2.2.2.2.2.2.2.2.2.1 (by rw [getD_set_ne _ (by decide)] at h; exact h)), (fun h => HFF.out.2.2.2.2.2.2.2.2.2.2.2.2.2.2.2.2.1 (by rw [getD_set_ne _ (by decide)] at h; exact h)), (fun h => HFF.out.2.2.2.2.2.2.2.2.2.2.2.2.2.2.2.2.2.1 (by rw [getD_set_ne _ (by decide)] at h; exact h)), (fun h => HFF.out.2.2.2.2.2.2.2.2.2.2.2.2.2.2.2.2.2.2.1 (by rw [getD_set_ne _ (by decide)] at h; exact h)), (fun h => HFF.out.2.2.2.2.2.2.2.2.2.2.2.2.2.2.2.2.2.2.2 (by rw [getD_set_ne _ (by decide)] at h; exact h)), HBW.out, ?_⟩
          intro h
          rw [getD_set_ne _ (by decide)] at h
          obtain ⟨g, hgl, e19, z1, z2⟩ := H19.out h
          rw [getD_set_ne _ (by decide)]
          exact ⟨g, hgl, by simp [e19], fun h => (z1 h), fun h => (z2 h)⟩
        · -- operation 6
          cases ho
          have e5 := f5 (HAF.out ⟨5, .data⟩ (by simp) rfl)
          have HFF := Lib.hid (And.intro f0 ( And.intro f1 ( And.intro f2 ( And.intro f3 ( And.intro f4 ( And.intro f5 ( And.intro f6 ( And.intro f7 ( And.intro f8 ( And.intro f9 ( And.intro f10 ( And.intro f11 ( And.intro f12 ( And.intro f13 ( And.intro f14 ( And.intro f15 ( And.intro f16 ( And.intro f17 ( And.intro f18 (f21))))))))))))))))))))
          clear f0 f1 f2 f3 f4 f5 f6 f7 f8 f9 f10 f11 f12 f13 f14 f15 f16 f17 f18 f21 hun
          refine Ri9.wpOp_list rfl ?_
          go_wp2
          refine (HJ.out _ _ _).2 ⟨fun k => if k = 6 then .int .i64 (t1 : Int) else v k, by simp [e5], (fun h => HFF.out.1 (by rw [getD_set_ne _ (by decide)] at h; exact h)), (fun h => HFF.out.2.1 (by rw [getD_set_ne _ (by decide)] at h; exact h)), (fun h => HFF.out.2.2.1 (by rw [getD_set_ne _ (by decide)] at h; exact h)), (fun h => HFF.out.2.2.2.1 (by rw [getD_set_ne _ (by decide)] at h; exact h)), (fun h => HFF.out.2.2.2.2.1 (by rw [getD_set_ne _ (by decide)] at h; exact h)), (fun h => HFF.out.2.2.2.2.2.1 (by rw [getD_set_ne _ (by decide)] at h; exact h)), (fun _ => rfl), (fun h => HFF.out.2.2.2.2.2.2.2.1 (by rw [getD_set_ne _ (by decide)] at h; exact h)), (fun h => HFF.out.2.2.2.2.2.2.2.2.1 (by rw [getD_set_ne _ (by decide)] at h; exact h)), (fun h => HFF.out.2.2.2.2.2.2.2.2.2.1 (by rw [getD_set_ne _ (by decide)] at h; exact h)), (fun h => HFF.out.2.2.2.2.2.2.2.2.2.2.1 (by rw [getD_set_ne _ (by decide)] at h; exact h)), (fun h => HFF.out.2.2.2.2.2.2.2.2.2.2.2.1 (by rw [getD_set_ne _ (by decide)] at h; exact h)), (fun h => HFF.out.2.2.2.2.2.2.2.2.2.2.2.2.1 (by rw [getD_set_ne _ (by decide)] at h; exact h)), (fun h => HFF.out.2.2.2.2.2.2.2.2.2.2.2.2.2.1 (by rw [getD_set_ne _ (by decide)] at h; exact h)), (fun h => HFF.out.2.2.2.2.2.2.2.2.2.2.2.2.2.2.1 (by rw [getD_set_ne _ (by decide)] at h; exact h)), (fun h => HFF.out.2.2.2.2.2.2.2.2.2.2.2.2.2.2.2.1 (by rw [getD_set_ne _ (by decide)] at h; exact h)), (fun h => HFF.out.2.2.2.2.2.2.2.2.2.2.2.2.2.2.2.2.1 (by rw [getD_set_ne _ (by decide)] at h; exact h)), (fun h => HFF.out.2.2.2.2.2.2.2.2.2.2.2.2.2.2.2.2.2.1 (by rw [getD_set_ne _ (by decide)] at h; exact h)), (fun h => HFF.out.2.2.2.2.2.2.2.2.2.2.2.2.2.2.2.2.2.2.1 (by rw [getD_set_ne _ (by decide)] at h; exact h)), (fun h => HFF.out.2.2.2.2.2.2.2.2.2.2.2.2.2.2.2.2.2.2.2 (by rw [getD_set_ne _ (by decide)] at h; exact h)), HBW.out, ?_⟩
          intro h
          rw [getD_set_ne _ (by decide)] at h
          obtain ⟨g, hgl, e19, z1, z2⟩ := H19.out h
          rw [getD_set_ne _ (by decide)]
          exact ⟨g, hgl, by simp [e19], fun h => (z1 h), fun h => (z2 h)⟩
        · -- operation 7
          cases ho
          have e4 := f4 (HAF.out ⟨4, .data⟩ (by simp) rfl)
          have e6 := f6 (HAF.out ⟨6, .data⟩ (by simp) rfl)
          have HFF := Lib.hid (And.intro f0 ( And.intro f1 ( And.intro f2 ( And.intro f3 ( And.intro f4 ( And.intro f5 ( And.intro f6 ( And.intro f7 ( And.intro f8 ( And.intro f9 ( And.intro f10 ( And.intro f11 ( And.intro f12 ( And.intro f13 ( And.intro f14 ( And.intro f15 ( And.intro f16 ( And.intro f17 ( And.intro f18 (f21))))))))))))))))))))
          clear f0 f1 f2 f3 f4 f5 f6 f7 f8 f9 f10 f11 f12 f13 f14 f15 f16 f17 f18 f21 hun
          refine Ri9.wpOp_list rfl ?_
          go_wp2
          refine (HJ.out _ _ _).2 ⟨fun k => if k = 7 then .pointer (some ⟨hs, t1, none⟩) else v k, by simp [e4, e6], (fun h => HFF.out.1 (by rw [getD_set_ne _ (by decide)] at h; exact h)), (fun h => HFF.out.2.1 (by rw [getD_set_ne _ (by decide)] at h; exact h)), (fun h => HFF.out.2.2.1 (by rw [getD_set_ne _ (by decide)] at h; exact h)), (fun h => HFF.out.2.2.2.1 (by rw [getD_set_ne _ (by decide)] at h; exact h)), (fun h => HFF.out.2.2.2.2.1 (by rw [getD_set_ne _ (by decide)] at h; exact h)), (fun h => HFF.out.2.2.2.2.2.1 (by rw [getD_set_ne _ (by decide)] at h; exact h)), (fun h => HFF.out.2.2.2.2.2.2.1 (by rw [getD_set_ne _ (by decide)] at h; exact h)), (fun _ => rfl), (fun h => HFF.out.2.2.2.2.2.2.2.2.1 (by rw [getD_set_ne _ (by decide)] at h; exact h)), (fun h => HFF.out.2.2.2.2.2.2.2.2.2.1 (by rw [getD_set_ne _ (by decide)] at h; exact h)), (fun h => HFF.out.2.2.2.2.2.2.2.2.2.2.1 (by rw [getD_set_ne _ (by decide)] at h; exact h)), (fun h => HFF.out.2.2.2.2.2.2.2.2.2.2.2.1 (by rw [getD_set_ne _ (by decide)] at h; exact h)), (fun h => HFF.out.2.2.2.2.2.2.2.2.2.2.2.2.1 (by rw [getD_set_ne _ (by decide)] at h; exact h)), (fun h => HFF.out.2.2.2.2.2.2.2.2.2.2.2.2.2.1 (by rw [getD_set_ne _ (by decide)] at h; exact h)), (fun h => HFF.out.2.2.2.2.2.2.2.2.2.2.2.2.2.2.1 (by rw [getD_set_ne _ (by decide)] at h; exact h)), (fun h => HFF.out.2.2.2.2.2.2.2.2.2.2.2.2.2.2.2.1 (by rw [getD_set_ne _ (by decide)] at h; exact h)), (fun h => HFF.out.2.2.2.2.2.2.2.2.2.2.2.2.2.2.2.2.1 (by rw [getD_set_ne _ (by decide)] at h; exact h)), (fun h => HFF.out.2.2.2.2.2.2.2.2.2.2.2.2.2.2.2.2.2.1 (by rw [getD_set_ne _ (by decide)] at h; exact h)), (fun h => HFF.out.2.2.2.2.2.2.2.2.2.2.2.2.2.2.2.2.2.2.1 (by rw [getD_set_ne _ (by decide)] at h; exact h)), (fun h => HFF.out.2.2.2.2.2.2.2.2.2.2.2.2.2.2.2.2.2.2.2 (by rw [getD_set_ne _ (by decide)] at h; exact h)), HBW.out, ?_⟩
          intro h
          rw [getD_set_ne _ (by decide)] at h
          obtain ⟨g, hgl, e19, z1, z2⟩ := H19.out h
          rw [getD_set_ne _ (by decide)]
          exact ⟨g, hgl, by simp [e19], fun h => (z1 h), fun h => (z2 h)⟩
        · -- operation 8
          cases ho
          have e7 := f7 (HAF.out ⟨7, .data⟩ (by simp) rfl)
          have cc := HBW.out.kp HCS.out.2
          have HFF := Lib.hid (And.intro f0 ( And.intro f1 ( And.intro f2 ( And.intro f3 ( And.intro f4 ( And.intro f5 ( And.intro f6 ( And.intro f7 ( And.intro f8 ( And.intro f9 ( And.intro f10 ( And.intro f11 ( And.intro f12 ( And.intro f13 ( And.intro f14 ( And.intro f15 ( And.intro f16 ( And.intro f17 ( And.intro f18 (f21))))))))))))))))))))
          clear f0 f1 f2 f3 f4 f5 f6 f7 f8 f9 f10 f11 f12 f13 f14 f15 f16 f17 f18 f21 hun
          refine Ri9.wpOp_list rfl ?_
          go_wp2
          refine (HJ.out _ _ _).2 ⟨fun k => if k = 8 then .int .i64 (s1 : Int) else v k, by simp [e7], (fun h => HFF.out.1 (by rw [getD_set_ne _ (by decide)] at h; exact h)), (fun h => HFF.out.2.1 (by rw [getD_set_ne _ (by decide)] at h; exact h)), (fun h => HFF.out.2.2.1 (by rw [getD_set_ne _ (by decide)] at h; exact h)), (fun h => HFF.out.2.2.2.1 (by rw [getD_set_ne _ (by decide)] at h; exact h)), (fun h => HFF.out.2.2.2.2.1 (by rw [getD_set_ne _ (by decide)] at h; exact h)), (fun h => HFF.out.2.2.2.2.2.1 (by rw [getD_set_ne _ (by decide)] at h; exact h)), (fun h => HFF.out.2.2.2.2.2.2.1 (by rw [getD_set_ne _ (by decide)] at h; exact h)), (fun h => HFF.out.2.2.2.2.2.2.2.1 (by rw [getD_set_ne _ (by decide)] at h; exact h)), (fun _ => rfl), (fun h => HFF.out.2.2.2.2.2.2.2.2.2.1 (by rw [getD_set_ne _ (by decide)] at h; exact h)), (fun h => HFF.out.2.2.2.2.2.2.2.2.2.2.1 (by rw [getD_set_ne _ (by decide)] at h; exact h)), (fun h => HFF.out.2.2.2.2.2.2.2.2.2.2.2.1 (by rw [getD_set_ne _ (by decide)] at h; exact h)), (fun h => HFF.out.2.2.2.2.2.2.2.2.2.2.2.2.1 (by rw [getD_set_ne _ (by decide)] at h; exact h)), (fun h => HFF.out.2.2.2.2.2.2.2.2.2.2.2.2.2.1 (by rw [getD_set_ne _ (by decide)] at h; exact h)), (fun h => HFF.out.2.2.2.2.2.2.2.2.2.2.2.2.2.2.1 (by rw [getD_set_ne _ (by decide)] at h; exact h)), (fun h => HFF.out.2.2.2.2.2.2.2.2.2.2.2.2.2.2.2.1 (by rw [getD_set_ne _ (by decide)] at h; exact h)), (fun h => HFF.out.2.2.2.2.2.2.2.2.2.2.2.2.2.2.2.2.1 (by rw [getD_set_ne _ (by decide)] at h; exact h)), (fun h => HFF.out.2.2.2.2.2.2.2.2.2.2.2.2.2.2.2.2.2.1 (by rw [getD_set_ne _ (by decide)] at h; exact h)), (fun h => HFF.out.2.2.2.2.2.2.2.2.2.2.2.2.2.2.2.2.2.2.1 (by rw [getD_set_ne _ (by decide)] at h; exact h)), (fun h => HFF.out.2.2.2.2.2.2.2.2.2.2.2.2.2.2.2.2.2.2.2 (by rw [getD_set_ne _ (by decide)] at h; exact h)), HBW.out, ?_⟩
          intro h
          rw [getD_set_ne _ (by decide)] at h
          obtain ⟨g, hgl, e19, z1, z2⟩ := H19.out h
          rw [getD_set_ne _ (by decide)]
          exact ⟨g, hgl, by simp [e19], fun h => (z1 h), fun h => (z2 h)⟩
        · -- operation 9
          cases ho
          have HFF := Lib.hid (And.intro f0 ( And.intro f1 ( And.intro f2 ( And.intro f3 ( And.intro f4 ( And.intro f5 ( And.intro f6 ( And.intro f7 ( And.intro f8 ( And.intro f9 ( And.intro f10 ( And.intro f11 ( And.intro f12 ( And.intro f13 ( And.intro f14 ( And.intro f15 ( And.intro f16 ( And.intro f17 ( And.intro f18 (f21))))))))))))))))))))
          clear f0 f1 f2 f3 f4 f5 f6 f7 f8 f9 f10 f11 f12 f13 f14 f15 f16 f17 f18 f21 hun
          refine Ri9.wpOp_list rfl ?_
          go_wp2
          refine (HJ.out _ _ _).2 ⟨fun k => if k = 9 then (.slice (some ⟨hs, 0, none⟩) (n + 1) c') else v k, by simp [], (fun h => HFF.out.1 (by rw [getD_set_ne _ (by decide)] at h; exact h)), (fun h => HFF.out.2.1 (by rw [getD_set_ne _ (by decide)] at h; exact h)), (fun h => HFF.out.2.2.1 (by rw [getD_set_ne _ (by decide)] at h; exact h)), (fun h => HFF.out.2.2.2.1 (by rw [getD_set_ne _ (by decide)] at h; exact h)), (fun h => HFF.out.2.2.2.2.1 (by rw [getD_set_ne _ (by decide)] at h; exact h)), (fun h => HFF.out.2.2.2.2.2.1 (by rw [getD_set_ne _ (by decide)] at h; exact h)), (fun h => HFF.out.2.2.2.2.2.2.1 (by rw [getD_set_ne _ (by decide)] at h; exact h)), (fun h => HFF.out.2.2.2.2.2.2.2.1 (by rw [getD_set_ne _ (by decide)] at h; exact h)), (fun h => HFF.out.2.2.2.2.2.2.2.2.1 (by rw [getD_set_ne _ (by decide)] at h; exact h)), (fun _ => rfl), (fun h => HFF.out.2.2.2.2.2.2.2.2.2.2.1 (by rw [getD_set_ne _ (by decide)] at h; exact h)), (fun h => HFF.out.2.2.2.2.2.2.2.2.2.2.2.1 (by rw [getD_set_ne _ (by decide)] at h; exact h)), (fun h => HFF.out.2.2.2.2.2.2.2.2.2.2.2.2.1 (by rw [getD_set_ne _ (by decide)] at h; exact h)), (fun h => HFF.out.2.2.2.2.2.2.2.2.2.2.2.2.2.1 (by rw [getD_set_ne _ (by decide)] at h; exact h)), (fun h => HFF.out.2.2.2.2.2.2.2.2.2.2.2.2.2.2.1 (by rw [getD_set_ne _ (by decide)] at h; exact h)), (fun h => HFF.out.2.2.2.2.2.2.2.2.2.2.2.2.2.2.2.1 (by rw [getD_set_ne _ (by decide)] at h; exact h)), (fun h => HFF.out.2.2.2.2.2.2.2.2.2.2.2.2.2.2.2.2.1 (by rw [getD_set_ne _ (by decide)] at h; exact h)), (fun h => HFF.out.2.2.2.2.2.2.2.2.2.2.2.2.2.2.2.2.2.1 (by rw [getD_set_ne _ (by decide)] at h; exact h)), (fun h => HFF.out.2.2.2.2.2.2.2.2.2.2.2.2.2.2.2.2.2.2.1 (by rw [getD_set_ne _ (by decide)] at h; exact h)), (fun h => HFF.out.2.2.2.2.2.2.2.2.2.2.2.2.2.2.2.2.2.2.2 (by rw [getD_set_ne _ (by decide)] at h; exact h)), HBW.out, ?_⟩
          intro h
          rw [getD_set_ne _ (by decide)] at h
          obtain ⟨g, hgl, e19, z1, z2⟩ := H19.out h
          rw [getD_set_ne _ (by decide)]
          exact ⟨g, hgl, by simp [e19], fun h => (z1 h), fun h => (z2 h)⟩
        · -- operation 10
          cases ho
          have HFF := Lib.hid (And.intro f0 ( And.intro f1 ( And.intro f2 ( And.intro f3 ( And.intro f4 ( And.intro f5 ( And.intro f6 ( And.intro f7 ( And.intro f8 ( And.intro f9 ( And.intro f10 ( And.intro f11 ( And.intro f12 ( And.intro f13 ( And.intro f14 ( And.intro f15 ( And.intro f16 ( And.intro f17 ( And.intro f18 (f21))))))))))))))))))))
          clear f0 f1 f2 f3 f4 f5 f6 f7 f8 f9 f10 f11 f12 f13 f14 f15 f16 f17 f18 f21 hun
          refine Ri9.wpOp_list rfl ?_
          go_wp2
          refine (HJ.out _ _ _).2 ⟨fun k => if k = 10 then .int .i64 (t : Int) else v k, by simp [], (fun h => HFF.out.1 (by rw [getD_set_ne _ (by decide)] at h; exact h)), (fun h => HFF.out.2.1 (by rw [getD_set_ne _ (by decide)] at h; exact h)), (fun h => HFF.out.2.2.1 (by rw [getD_set_ne _ (by decide)] at h; exact h)), (fun h => HFF.out.2.2.2.1 (by rw [getD_set_ne _ (by decide)] at h; exact h)), (fun h => HFF.out.2.2.2.2.1 (by rw [getD_set_ne _ (by decide)] at h; exact h)), (fun h => HFF.out.2.2.2.2.2.1 (by rw [getD_set_ne _ (by decide)] at h; exact h)), (fun h => HFF.out.2.2.2.2.2.2.1 (by rw [getD_set_ne _ (by decide)] at h; exact h)), (fun h => HFF.out.2.2.2.2.2.2.2.1 (by rw [getD_set_ne _ (by decide)] at h; exact h)), (fun h => HFF.out.2.2.2.2.2.2.2.2.1 (by rw [getD_set_ne _ (by decide)] at h; exact h)), (fun h => HFF.out.2.2.2.2.2.2.2.2.2.1 (by rw [getD_set_ne _ (by decide)] at h; exact h)), (fun _ => rfl), (fun h => HFF.out.2.2.2.2.2.2.2.2.2.2.2.1 (by rw [getD_set_ne _ (by decide)] at h; exact h)), (fun h => HFF.out.2.2.2.2.2.2.2.2.2.2.2.2.1 (by rw [getD_set_ne _ (by decide)] at h; exact h)), (fun h => HFF.out.2.2.2.2.2.2.2.2.2.2.2.2.2.1 (by rw [getD_set_ne _ (by decide)] at h; exact h)), (fun h => HFF.out.2.2.2.2.2.2.2.2.2.2.2.2.2.2.1 (by rw [getD_set_ne _ (by decide)] at h; exact h)), (fun h => HFF.out.2.2.2.2.2.2.2.2.2.2.2.2.2.2.2.1 (by rw [getD_set_ne _ (by decide)] at h; exact h)), (fun h => HFF.out.2.2.2.2.2.2.2.2.2.2.2.2.2.2.2.2.1 (by rw [getD_set_ne _ (by decide)] at h; exact h)), (fun h => HFF.out.2.2.2.2.2.2.2.2.2.2.2.2.2.2.2.2.2.1 (by rw [getD_set_ne _ (by decide)] at h; exact h)), (fun h => HFF.out.2.2.2.2.2.2.2.2.2.2.2.2.2.2.2.2.2.2.1 (by rw [getD_set_ne _ (by decide)] at h; exact h)), (fun h => HFF.out.2.2.2.2.2.2.2.2.2.2.2.2.2.2.2.2.2.2.2 (by rw [getD_set_ne _ (by decide)] at h; exact h)), HBW.out, ?_⟩
          intro h
          rw [getD_set_ne _ (by decide)] at h
          obtain ⟨g, hgl, e19, z1, z2⟩ := H19.out h
          rw [getD_set_ne _ (by decide)]
          exact ⟨g, hgl, by simp [e19], fun h => (z1 h), fun h => (z2 h)⟩
        · -- operation 11
          cases ho
          have e9 := f9 (HAF.out ⟨9, .data⟩ (by simp) rfl)
          have e10 := f10 (HAF.out ⟨10, .data⟩ (by simp) rfl)
          have HFF := Lib.hid (And.intro f0 ( And.intro f1 ( And.intro f2 ( And.intro f3 ( And.intro f4 ( And.intro f5 ( And.intro f6 ( And.intro f7 ( And.intro f8 ( And.intro f9 ( And.intro f10 ( And.intro f11 ( And.intro f12 ( And.intro f13 ( And.intro f14 ( And.intro f15 ( And.intro f16 ( And.intro f17 ( And.intro f18 (f21))))))))))))))))))))
          clear f0 f1 f2 f3 f4 f5 f6 f7 f8 f9 f10 f11 f12 f13 f14 f15 f16 f17 f18 f21 hun
          refine Ri9.wpOp_list rfl ?_
          go_wp2
          refine (HJ.out _ _ _).2 ⟨fun k => if k = 11 then .pointer (some ⟨hs, t, none⟩) else v k, by simp [e9, e10], (fun h => HFF.out.1 (by rw [getD_set_ne _ (by decide)] at h; exact h)), (fun h => HFF.out.2.1 (by rw [getD_set_ne _ (by decide)] at h; exact h)), (fun h => HFF.out.2.2.1 (by rw [getD_set_ne _ (by decide)] at h; exact h)), (fun h => HFF.out.2.2.2.1 (by rw [getD_set_ne _ (by decide)] at h; exact h)), (fun h => HFF.out.2.2.2.2.1 (by rw [getD_set_ne _ (by decide)] at h; exact h)), (fun h => HFF.out.2.2.2.2.2.1 (by rw [getD_set_ne _ (by decide)] at h; exact h)), (fun h => HFF.out.2.2.2.2.2.2.1 (by rw [getD_set_ne _ (by decide)] at h; exact h)), (fun h => HFF.out.2.2.2.2.2.2.2.1 (by rw [getD_set_ne _ (by decide)] at h; exact h)), (fun h => HFF.out.2.2.2.2.2.2.2.2.1 (by rw [getD_set_ne _ (by decide)] at h; exact h)), (fun h => HFF.out.2.2.2.2.2.2.2.2.2.1 (by rw [getD_set_ne _ (by decide)] at h; exact h)), (fun h => HFF.out.2.2.2.2.2.2.2.2.2.2.1 (by rw [getD_set_ne _ (by decide)] at h; exact h)), (fun _ => rfl), (fun h => HFF.out.2.2.2.2.2.2.2.2.2.2.2.2.1 (by rw [getD_set_ne _ (by decide)] at h; exact h)), (fun h => HFF.out.2.2.2.2.2.2.2.2.2.2.2.2.2.1 (by rw [getD_set_ne _ (by decide)] at h; exact h)), (fun h => HFF.out.2.2.2.2.2.2.2.2.2.2.2.2.2.2.1 (by rw [getD_set_ne _ (by decide)] at h; exact h)), (fun h => HFF.out.2.2.2.2.2.2.2.2.2.2.2.2.2.2.2.1 (by rw [getD_set_ne _ (by decide)] at h; exact h)), (fun h => HFF.out.2.2.2.2.2.2.2.2.2.2.2.2.2.2.2.2.1 (by rw [getD_set_ne _ (by decide)] at h; exact h)), (fun h => HFF.out.2.2.2.2.2.2.2.2.2.2.2.2.2.2.2.2.2.1 (by rw [getD_set_ne _ (by decide)] at h; exact h)), (fun h => HFF.out.2.2.2.2.2.2.2.2.2.2.2.2.2.2.2.2.2.2.1 (by rw [getD_set_ne _ (by decide)] at h; exact h)), (fun h => HFF.out.2.2.2.2.2.2.2.2.2.2.2.2.2.2.2.2.2.2.2 (by rw [getD_set_ne _ (by decide)] at h; exact h)), HBW.out, ?_⟩
          intro h
          rw [getD_set_ne _ (by decide)] at h
          obtain ⟨g, hgl, e19, z1, z2⟩ := H19.out h
          rw [getD_set_ne _ (by decide)]
          exact ⟨g, hgl, by simp [e19], fun h => (z1 h), fun h => (z2 h)⟩
        · -- operation 12
          cases ho
          have e11 := f11 (HAF.out ⟨11, .data⟩ (by simp) rfl)
          have cc := HBW.out.kp HCS.out.1
          have HFF := Lib.hid (And.intro f0 ( And.intro f1 ( And.intro f2 ( And.intro f3 ( And.intro f4 ( And.intro f5 ( And.intro f6 ( And.intro f7 ( And.intro f8 ( And.intro f9 ( And.intro f10 ( And.intro f11 ( And.intro f12 ( And.intro f13 ( And.intro f14 ( And.intro f15 ( And.intro f16 ( And.intro f17 ( And.intro f18 (f21))))))))))))))))))))
          clear f0 f1 f2 f3 f4 f5 f6 f7 f8 f9 f10 f11 f12 f13 f14 f15 f16 f17 f18 f21 hun
          refine Ri9.wpOp_list rfl ?_
          go_wp2
          refine (HJ.out _ _ _).2 ⟨fun k => if k = 12 then .int .i64 (s0 : Int) else v k, by simp [e11], (fun h => HFF.out.1 (by rw [getD_set_ne _ (by decide)] at h; exact h)), (fun h => HFF.out.2.1 (by rw [getD_set_ne _ (by decide)] at h; exact h)), (fun h => HFF.out.2.2.1 (by rw [getD_set_ne _ (by decide)] at h; exact h)), (fun h => HFF.out.2.2.2.1 (by rw [getD_set_ne _ (by decide)] at h; exact h)), (fun h => HFF.out.2.2.2.2.1 (by rw [getD_set_ne _ (by decide)] at h; exact h)), (fun h => HFF.out.2.2.2.2.2.1 (by rw [getD_set_ne _ (by decide)] at h; exact h)), (fun h => HFF.out.2.2.2.2.2.2.1 (by rw [getD_set_ne _ (by decide)] at h; exact h)), (fun h => HFF.out.2.2.2.2.2.2.2.1 (by rw [getD_set_ne _ (by decide)] at h; exact h)), (fun h => HFF.out.2.2.2.2.2.2.2.2.1 (by rw [getD_set_ne _ (by decide)] at h; exact h)), (fun h => HFF.out.2.2.2.2.2.2.2.2.2.1 (by rw [getD_set_ne _ (by decide)] at h; exact h)), (fun h => HFF.out.2.2.2.2.2.2.2.2.2.2.1 (by rw [getD_set_ne _ (by decide)] at h; exact h)), (fun h => HFF.out.2.2.2.2.2.2.2.2.2.2.2.1 (by rw [getD_set_ne _ (by decide)] at h; exact h)), (fun _ => rfl), (fun h => HFF.out.2.2.2.2.2.2.2.2.2.2.2.2.2.1 (by rw [getD_set_ne _ (by decide)] at h; exact h)), (fun h => HFF.out.2.2.2.2.2.2.2.2.2.2.2.2.2.2.1 (by rw [getD_set_ne _ (by decide)] at h; exact h)), (fun h => HFF.out.2.2.2.2.2.2.2.2.2.2.2.2.2.2.2.1 (by rw [getD_set_ne _ (by decide)] at h; exact h)), (fun h => HFF.out.2.2.2.2.2.2.2.2.2.2.2.2.2.2.2.2.1 (by rw [getD_set_ne _ (by decide)] at h; exact h)), (fun h => HFF.out.2.2.2.2.2.2.2.2.2.2.2.2.2.2.2.2.2.1 (by rw [getD_set_ne _ (by decide)] at h; exact h)), (fun h => HFF.out.2.2.2.2.2.2.2.2.2.2.2.2.2.2.2.2.2.2.1 (by rw [getD_set_ne _ (by decide)] at h; exact h)), (fun h => HFF.out.2.2.2.2.2.2.2.2.2.2.2.2.2.2.2.2.2.2.2 (by rw [getD_set_ne _ (by decide)] at h; exact h)), HBW.out, ?_⟩
          intro h
          rw [getD_set_ne _ (by decide)] at h
          obtain ⟨g, hgl, e19, z1, z2⟩ := H19.out h
          rw [getD_set_ne _ (by decide)]
          exact ⟨g, hgl, by simp [e19], fun h => (z1 h), fun h => (z2 h)⟩
        · -- operation 13
          cases ho
          have e8 := f8 (HAF.out ⟨8, .data⟩ (by simp) rfl)
          have e12 := f12 (HAF.out ⟨12, .data⟩ (by simp) rfl)
          have HFF := Lib.hid (And.intro f0 ( And.intro f1 ( And.intro f2 ( And.intro f3 ( And.intro f4 ( And.intro f5 ( And.intro f6 ( And.intro f7 ( And.intro f8 ( And.intro f9 ( And.intro f10 ( And.intro f11 ( And.intro f12 ( And.intro f13 ( And.intro f14 ( And.intro f15 ( And.intro f16 ( And.intro f17 ( And.intro f18 (f21))))))))))))))))))))
          clear f0 f1 f2 f3 f4 f5 f6 f7 f8 f9 f10 f11 f12 f13 f14 f15 f16 f17 f18 f21 hun
          refine Ri9.wpOp_list rfl ?_
          go_wp2
          refine (HJ.out _ _ _).2 ⟨fun k => if k = 13 then .int .i64 (ln : Int) else v k, by simp [e8, e12], (fun h => HFF.out.1 (by rw [getD_set_ne _ (by decide)] at h; exact h)), (fun h => HFF.out.2.1 (by rw [getD_set_ne _ (by decide)] at h; exact h)), (fun h => HFF.out.2.2.1 (by rw [getD_set_ne _ (by decide)] at h; exact h)), (fun h => HFF.out.2.2.2.1 (by rw [getD_set_ne _ (by decide)] at h; exact h)), (fun h => HFF.out.2.2.2.2.1 (by rw [getD_set_ne _ (by decide)] at h; exact h)), (fun h => HFF.out.2.2.2.2.2.1 (by rw [getD_set_ne _ (by decide)] at h; exact h)), (fun h => HFF.out.2.2.2.2.2.2.1 (by rw [getD_set_ne _ (by decide)] at h; exact h)), (fun h => HFF.out.2.2.2.2.2.2.2.1 (by rw [getD_set_ne _ (by decide)] at h; exact h)), (fun h => HFF.out.2.2.2.2.2.2.2.2.1 (by rw [getD_set_ne _ (by decide)] at h; exact h)), (fun h => HFF.out.2.2.2.2.2.2.2.2.2.1 (by rw [getD_set_ne _ (by decide)] at h; exact h)), (fun h => HFF.out.2.2.2.2.2.2.2.2.2.2.1 (by rw [getD_set_ne _ (by decide)] at h; exact h)), (fun h => HFF.out.2.2.2.2.2.2.2.2.2.2.2.1 (by rw [getD_set_ne _ (by decide)] at h; exact h)), (fun h => HFF.out.2.2.2.2.2.2.2.2.2.2.2.2.1 (by rw [getD_set_ne _ (by decide)] at h; exact h)), (fun _ => rfl), (fun h => HFF.out.2.2.2.2.2.2.2.2.2.2.2.2.2.2.1 (by rw [getD_set_ne _ (by decide)] at h; exact h)), (fun h => HFF.out.2.2.2.2.2.2.2.2.2.2.2.2.2.2.2.1 (by rw [getD_set_ne _ (by decide)] at h; exact h)), (fun h => HFF.out.2.2.2.2.2.2.2.2.2.2.2.2.2.2.2.2.1 (by rw [getD_set_ne _ (by decide)] at h; exact h)), (fun h => HFF.out.2.2.2.2.2.2.2.2.2.2.2.2.2.2.2.2.2.1 (by rw [getD_set_ne _ (by decide)] at h; exact h)), (fun h => HFF.out.2.2.2.2.2.2.2.2.2.2.2.2.2.2.2.2.2.2.1 (by rw [getD_set_ne _ (by decide)] at h; exact h)), (fun h => HFF.out.2.2.2.2.2.2.2.2.2.2.2.2.2.2.2.2.2.2.2 (by rw [getD_set_ne _ (by decide)] at h; exact h)), HBW.out, ?_⟩
          intro h
          rw [getD_set_ne _ (by decide)] at h
          obtain ⟨g, hgl, e19, z1, z2⟩ := H19.out h
          rw [getD_set_ne _ (by decide)]
          exact ⟨g, hgl, by simp [e19], fun h => (z1 h), fun h => (z2 h)⟩
        · -- operation 14
          cases ho
          have e3 := f3 (HAF.out ⟨3, .data⟩ (by simp) rfl)
          have e13 := f13 (HAF.out ⟨13, .data⟩ (by simp) rfl)
          have HFF := Lib.hid (And.intro f0 ( And.intro f1 ( And.intro f2 ( And.intro f3 ( And.intro f4 ( And.intro f5 ( And.intro f6 ( And.intro f7 ( And.intro f8 ( And.intro f9 ( And.intro f10 ( And.intro f11 ( And.intro f12 ( And.intro f13 ( And.intro f14 ( And.intro f15 ( And.intro f16 ( And.intro f17 ( And.intro f18 (f21))))))))))))))))))))
          clear f0 f1 f2 f3 f4 f5 f6 f7 f8 f9 f10 f11 f12 f13 f14 f15 f16 f17 f18 f21 hun
          refine Ri9.wpOp_list rfl ?_
          go_wp2
          refine (HJ.out _ _ _).2 ⟨fun k => if k = 14 then .int .i64 dn else v k, by simp [e3, e13], (fun h => HFF.out.1 (by rw [getD_set_ne _ (by decide)] at h; exact h)), (fun h => HFF.out.2.1 (by rw [getD_set_ne _ (by decide)] at h; exact h)), (fun h => HFF.out.2.2.1 (by rw [getD_set_ne _ (by decide)] at h; exact h)), (fun h => HFF.out.2.2.2.1 (by rw [getD_set_ne _ (by decide)] at h; exact h)), (fun h => HFF.out.2.2.2.2.1 (by rw [getD_set_ne _ (by decide)] at h; exact h)), (fun h => HFF.out.2.2.2.2.2.1 (by rw [getD_set_ne _ (by decide)] at h; exact h)), (fun h => HFF.out.2.2.2.2.2.2.1 (by rw [getD_set_ne _ (by decide)] at h; exact h)), (fun h => HFF.out.2.2.2.2.2.2.2.1 (by rw [getD_set_ne _ (by decide)] at h; exact h)), (fun h => HFF.out.2.2.2.2.2.2.2.2.1 (by rw [getD_set_ne _ (by decide)] at h; exact h)), (fun h => HFF.out.2.2.2.2.2.2.2.2.2.1 (by rw [getD_set_ne _ (by decide)] at h; exact h)), (fun h => HFF.out.2.2.2.2.2.2.2.2.2.2.1 (by rw [getD_set_ne _ (by decide)] at h; exact h)), (fun h => HFF.out.2.2.2.2.2.2.2.2.2.2.2.1 (by rw [getD_set_ne _ (by decide)] at h; exact h)), (fun h => HFF.out.2.2.2.2.2.2.2.2.2.2.2.2.1 (by rw [getD_set_ne _ (by decide)] at h; exact h)), (fun h => HFF.out.2.2.2.2.2.2.2.2.2.2.2.2.2.1 (by rw [getD_set_ne _ (by decide)] at h; exact h)), (fun _ => rfl), (fun h => HFF.out.2.2.2.2.2.2.2.2.2.2.2.2.2.2.2.1 (by rw [getD_set_ne _ (by decide)] at h; exact h)), (fun h => HFF.out.2.2.2.2.2.2.2.2.2.2.2.2.2.2.2.2.1 (by rw [getD_set_ne _ (by decide)] at h; exact h)), (fun h => HFF.out.2.2.2.2.2.2.2.2.2.2.2.2.2.2.2.2.2.1 (by rw [getD_set_ne _ (by decide)] at h; exact h)), (fun h => HFF.out.2.2.2.2.2.2.2.2.2.2.2.2.2.2.2.2.2.2.1 (by rw [getD_set_ne _ (by decide)] at h; exact h)), (fun h => HFF.out.2.2.2.2.2.2.2.2.2.2.2.2.2.2.2.2.2.2.2 (by rw [getD_set_ne _ (by decide)] at h; exact h)), HBW.out, ?_⟩
          intro h
          rw [getD_set_ne _ (by decide)] at h
          obtain ⟨g, hgl, e19, z1, z2⟩ := H19.out h
          rw [getD_set_ne _ (by decide)]
          exact ⟨g, hgl, by simp [e19], fun h => (z1 h), fun h => (z2 h)⟩
        · -- operation 15
          cases ho
          have e2 := f2 (HAF.out ⟨2, .data⟩ (by simp) rfl)
          have e14 := f14 (HAF.out ⟨14, .data⟩ (by simp) rfl)
          have HFF := Lib.hid (And.intro f0 ( And.intro f1 ( And.intro f2 ( And.intro f3 ( And.intro f4 ( And.intro f5 ( And.intro f6 ( And.intro f7 ( And.intro f8 ( And.intro f9 ( And.intro f10 ( And.intro f11 ( And.intro f12 ( And.intro f13 ( And.intro f14 ( And.intro f15 ( And.intro f16 ( And.intro f17 ( And.intro f18 (f21))))))))))))))))))))
          clear f0 f1 f2 f3 f4 f5 f6 f7 f8 f9 f10 f11 f12 f13 f14 f15 f16 f17 f18 f21 hun
          refine Ri9.wpOp_list rfl ?_
          go_wp2_with (go_at_call 54; refine (MK.out _).mono ?_; rintro e w8 ⟨rfl, hb8⟩)
          refine (HJ.out _ _ _).2 ⟨fun k => if k = 15 then (.tuple #[.agg #[.int .i64 t', .int .i64 u'], .int .i64 0]) else v k, by simp [e2, e14], (fun h => HFF.out.1 (by rw [getD_set_ne _ (by decide)] at h; exact h)), (fun h => HFF.out.2.1 (by rw [getD_set_ne _ (by decide)] at h; exact h)), (fun h => HFF.out.2.2.1 (by rw [getD_set_ne _ (by decide)] at h; exact h)), (fun h => HFF.out.2.2.2.1 (by rw [getD_set_ne _ (by decide)] at h; exact h)), (fun h => HFF.out.2.2.2.2.1 (by rw [getD_set_ne _ (by decide)] at h; exact h)), (fun h => HFF.out.2.2.2.2.2.1 (by rw [getD_set_ne _ (by decide)] at h; exact h)), (fun h => HFF.out.2.2.2.2.2.2.1 (by rw [getD_set_ne _ (by decide)] at h; exact h)), (fun h => HFF.out.2.2.2.2.2.2.2.1 (by rw [getD_set_ne _ (by decide)] at h; exact h)), (fun h => HFF.out.2.2.2.2.2.2.2.2.1 (by rw [getD_set_ne _ (by decide)] at h; exact h)), (fun h => HFF.out.2.2.2.2.2.2.2.2.2.1 (by rw [getD_set_ne _ (by decide)] at h; exact h)), (fun h => HFF.out.2.2.2.2.2.2.2.2.2.2.1 (by rw [getD_set_ne _ (by decide)] at h; exact h)), (fun h => HFF.out.2.2.2.2.2.2.2.2.2.2.2.1 (by rw [getD_set_ne _ (by decide)] at h; exact h)), (fun h => HFF.out.2.2.2.2.2.2.2.2.2.2.2.2.1 (by rw [getD_set_ne _ (by decide)] at h; exact h)), (fun h => HFF.out.2.2.2.2.2.2.2.2.2.2.2.2.2.1 (by rw [getD_set_ne _ (by decide)] at h; exact h)), (fun h => HFF.out.2.2.2.2.2.2.2.2.2.2.2.2.2.2.1 (by rw [getD_set_ne _ (by decide)] at h; exact h)), (fun _ => rfl), (fun h => HFF.out.2.2.2.2.2.2.2.2.2.2.2.2.2.2.2.2.1 (by rw [getD_set_ne _ (by decide)] at h; exact h)), (fun h => HFF.out.2.2.2.2.2.2.2.2.2.2.2.2.2.2.2.2.2.1 (by rw [getD_set_ne _ (by decide)] at h; exact h)), (fun h => HFF.out.2.2.2.2.2.2.2.2.2.2.2.2.2.2.2.2.2.2.1 (by rw [getD_set_ne _ (by decide)] at h; exact h)), (fun h => HFF.out.2.2.2.2.2.2.2.2.2.2.2.2.2.2.2.2.2.2.2 (by rw [getD_set_ne _ (by decide)] at h; exact h)), HBW.out.tr hb8, ?_⟩
          intro h
          rw [getD_set_ne _ (by decide)] at h
          obtain ⟨g, hgl, e19, z1, z2⟩ := H19.out h
          rw [getD_set_ne _ (by decide)]
          exact ⟨g, hgl, by simp [e19], fun h => (z1 h).bel hb8, fun h => (z2 h).bel hb8⟩
        · -- operation 16
          cases ho
          have e15 := f15 (HAF.out ⟨15, .data⟩ (by simp) rfl)
          have HFF := Lib.hid (And.intro f0 ( And.intro f1 ( And.intro f2 ( And.intro f3 ( And.intro f4 ( And.intro f5 ( And.intro f6 ( And.intro f7 ( And.intro f8 ( And.intro f9 ( And.intro f10 ( And.intro f11 ( And.intro f12 ( And.intro f13 ( And.intro f14 ( And.intro f15 ( And.intro f16 ( And.intro f17 ( And.intro f18 (f21))))))))))))))))))))
          clear f0 f1 f2 f3 f4 f5 f6 f7 f8 f9 f10 f11 f12 f13 f14 f15 f16 f17 f18 f21 hun
          refine Ri9.wpOp_list rfl ?_
          go_wp2
          refine (HJ.out _ _ _).2 ⟨fun k => if k = 16 then (.tuple #[.agg #[.int .i64 t', .int .i64 u'], .int .i64 0]) else v k, by simp [e15], (fun h => HFF.out.1 (by rw [getD_set_ne _ (by decide)] at h; exact h)), (fun h => HFF.out.2.1 (by rw [getD_set_ne _ (by decide)] at h; exact h)), (fun h => HFF.out.2.2.1 (by rw [getD_set_ne _ (by decide)] at h; exact h)), (fun h => HFF.out.2.2.2.1 (by rw [getD_set_ne _ (by decide)] at h; exact h)), (fun h => HFF.out.2.2.2.2.1 (by rw [getD_set_ne _ (by decide)] at h; exact h)), (fun h => HFF.out.2.2.2.2.2.1 (by rw [getD_set_ne _ (by decide)] at h; exact h)), (fun h => HFF.out.2.2.2.2.2.2.1 (by rw [getD_set_ne _ (by decide)] at h; exact h)), (fun h => HFF.out.2.2.2.2.2.2.2.1 (by rw [getD_set_ne _ (by decide)] at h; exact h)), (fun h => HFF.out.2.2.2.2.2.2.2.2.1 (by rw [getD_set_ne _ (by decide)] at h; exact h)), (fun h => HFF.out.2.2.2.2.2.2.2.2.2.1 (by rw [getD_set_ne _ (by decide)] at h; exact h)), (fun h => HFF.out.2.2.2.2.2.2.2.2.2.2.1 (by rw [getD_set_ne _ (by decide)] at h; exact h)), (fun h => HFF.out.2.2.2.2.2.2.2.2.2.2.2.1 (by rw [getD_set_ne _ (by decide)] at h; exact h)), (fun h => HFF.out.2.2.2.2.2.2.2.2.2.2.2.2.1 (by rw [getD_set_ne _ (by decide)] at h; exact h)), (fun h => HFF.out.2.2.2.2.2.2.2.2.2.2.2.2.2.1 (by rw [getD_set_ne _ (by decide)] at h; exact h)), (fun h => HFF.out.2.2.2.2.2.2.2.2.2.2.2.2.2.2.1 (by rw [getD_set_ne _ (by decide)] at h; exact h)), (fun h => HFF.out.2.2.2.2.2.2.2.2.2.2.2.2.2.2.2.1 (by rw [getD_set_ne _ (by decide)] at h; exact h)), (fun _ => rfl), (fun h => HFF.out.2.2.2.2.2.2.2.2.2.2.2.2.2.2.2.2.2.1 (by rw [getD_set_ne _ (by decide)] at h; exact h)), (fun h => HFF.out.2.2.2.2.2.2.2.2.2.2.2.2.2.2.2.2.2.2.1 (by rw [getD_set_ne _ (by decide)] at h; exact h)), (fun h => HFF.out.2.2.2.2.2.2.2.2.2.2.2.2.2.2.2.2.2.2.2 (by rw [getD_set_ne _ (by decide)] at h; exact h)), HBW.out, ?_⟩
          intro h
          rw [getD_set_ne _ (by decide)] at h
          obtain ⟨g, hgl, e19, z1, z2⟩ := H19.out h
          rw [getD_set_ne _ (by decide)]
          exact ⟨g, hgl, by simp [e19], fun h => (z1 h), fun h => (z2 h)⟩
        · -- operation 17
          cases ho
          have e16 := f16 (HAF.out ⟨16, .data⟩ (by simp) rfl)
          have HFF := Lib.hid (And.intro f0 ( And.intro f1 ( And.intro f2 ( And.intro f3 ( And.intro f4 ( And.intro f5 ( And.intro f6 ( And.intro f7 ( And.intro f8 ( And.intro f9 ( And.intro f10 ( And.intro f11 ( And.intro f12 ( And.intro f13 ( And.intro f14 ( And.intro f15 ( And.intro f16 ( And.intro f17 ( And.intro f18 (f21))))))))))))))))))))
          clear f0 f1 f2 f3 f4 f5 f6 f7 f8 f9 f10 f11 f12 f13 f14 f15 f16 f17 f18 f21 hun
          refine Ri9.wpOp_list rfl ?_
          go_wp2
          refine (HJ.out _ _ _).2 ⟨fun k => if k = 17 then (.agg #[.int .i64 t', .int .i64 u']) else v k, by simp [e16], (fun h => HFF.out.1 (by rw [getD_set_ne _ (by decide)] at h; exact h)), (fun h => HFF.out.2.1 (by rw [getD_set_ne _ (by decide)] at h; exact h)), (fun h => HFF.out.2.2.1 (by rw [getD_set_ne _ (by decide)] at h; exact h)), (fun h => HFF.out.2.2.2.1 (by rw [getD_set_ne _ (by decide)] at h; exact h)), (fun h => HFF.out.2.2.2.2.1 (by rw [getD_set_ne _ (by decide)] at h; exact h)), (fun h => HFF.out.2.2.2.2.2.1 (by rw [getD_set_ne _ (by decide)] at h; exact h)), (fun h => HFF.out.2.2.2.2.2.2.1 (by rw [getD_set_ne _ (by decide)] at h; exact h)), (fun h => HFF.out.2.2.2.2.2.2.2.1 (by rw [getD_set_ne _ (by decide)] at h; exact h)), (fun h => HFF.out.2.2.2.2.2.2.2.2.1 (by rw [getD_set_ne _ (by decide)] at h; exact h)), (fun h => HFF.out.2.2.2.2.2.2.2.2.2.1 (by rw [getD_set_ne _ (by decide)] at h; exact h)), (fun h => HFF.out.2.2.2.2.2.2.2.2.2.2.1 (by rw [getD_set_ne _ (by decide)] at h; exact h)), (fun h => HFF.out.2.2.2.2.2.2.2.2.2.2.2.1 (by rw [getD_set_ne _ (by decide)] at h; exact h)), (fun h => HFF.out.2.2.2.2.2.2.2.2.2.2.2.2.1 (by rw [getD_set_ne _ (by decide)] at h; exact h)), (fun h => HFF.out.2.2.2.2.2.2.2.2.2.2.2.2.2.1 (by rw [getD_set_ne _ (by decide)] at h; exact h)), (fun h => HFF.out.2.2.2.2.2.2.2.2.2.2.2.2.2.2.1 (by rw [getD_set_ne _ (by decide)] at h; exact h)), (fun h => HFF.out.2.2.2.2.2.2.2.2.2.2.2.2.2.2.2.1 (by rw [getD_set_ne _ (by decide)] at h; exact h)), (fun h => HFF.out.2.2.2.2.2.2.2.2.2.2.2.2.2.2.2.2.1 (by rw [getD_set_ne _ (by decide)] at h; exact h)), (fun _ => rfl), (fun h => HFF.out.2.2.2.2.2.2.2.2.2.2.2.2.2.2.2.2.2.2.1 (by rw [getD_set_ne _ (by decide)] at h; exact h)), (fun h => HFF.out.2.2.2.2.2.2.2.2.2.2.2.2.2.2.2.2.2.2.2 (by rw [getD_set_ne _ (by decide)] at h; exact h)), HBW.out, ?_⟩
          intro h
          rw [getD_set_ne _ (by decide)] at h
          obtain ⟨g, hgl, e19, z1, z2⟩ := H19.out h
          rw [getD_set_ne _ (by decide)]
          exact ⟨g, hgl, by simp [e19], fun h => (z1 h), fun h => (z2 h)⟩
        · -- operation 18
          cases ho
          have e16 := f16 (HAF.out ⟨16, .data⟩ (by simp) rfl)
          have HFF := Lib.hid (And.intro f0 ( And.intro f1 ( And.intro f2 ( And.intro f3 ( And.intro f4 ( And.intro f5 ( And.intro f6 ( And.intro f7 ( And.intro f8 ( And.intro f9 ( And.intro f10 ( And.intro f11 ( And.intro f12 ( And.intro f13 ( And.intro f14 ( And.intro f15 ( And.intro f16 ( And.intro f17 ( And.intro f18 (f21))))))))))))))))))))
          clear f0 f1 f2 f3 f4 f5 f6 f7 f8 f9 f10 f11 f12 f13 f14 f15 f16 f17 f18 f21 hun
          refine Ri9.wpOp_list rfl ?_
          go_wp2
          refine (HJ.out _ _ _).2 ⟨fun k => if k = 18 then .int .i64 0 else v k, by simp [e16], (fun h => HFF.out.1 (by rw [getD_set_ne _ (by decide)] at h; exact h)), (fun h => HFF.out.2.1 (by rw [getD_set_ne _ (by decide)] at h; exact h)), (fun h => HFF.out.2.2.1 (by rw [getD_set_ne _ (by decide)] at h; exact h)), (fun h => HFF.out.2.2.2.1 (by rw [getD_set_ne _ (by decide)] at h; exact h)), (fun h => HFF.out.2.2.2.2.1 (by rw [getD_set_ne _ (by decide)] at h; exact h)), (fun h => HFF.out.2.2.2.2.2.1 (by rw [getD_set_ne _ (by decide)] at h; exact h)), (fun h => HFF.out.2.2.2.2.2.2.1 (by rw [getD_set_ne _ (by decide)] at h; exact h)), (fun h => HFF.out.2.2.2.2.2.2.2.1 (by rw [getD_set_ne _ (by decide)] at h; exact h)), (fun h => HFF.out.2.2.2.2.2.2.2.2.1 (by rw [getD_set_ne _ (by decide)] at h; exact h)), (fun h => HFF.out.2.2.2.2.2.2.2.2.2.1 (by rw [getD_set_ne _ (by decide)] at h; exact h)), (fun h => HFF.out.2.2.2.2.2.2.2.2.2.2.1 (by rw [getD_set_ne _ (by decide)] at h; exact h)), (fun h => HFF.out.2.2.2.2.2.2.2.2.2.2.2.1 (by rw [getD_set_ne _ (by decide)] at h; exact h)), (fun h => HFF.out.2.2.2.2.2.2.2.2.2.2.2.2.1 (by rw [getD_set_ne _ (by decide)] at h; exact h)), (fun h => HFF.out.2.2.2.2.2.2.2.2.2.2.2.2.2.1 (by rw [getD_set_ne _ (by decide)] at h; exact h)), (fun h => HFF.out.2.2.2.2.2.2.2.2.2.2.2.2.2.2.1 (by rw [getD_set_ne _ (by decide)] at h; exact h)), (fun h => HFF.out.2.2.2.2.2.2.2.2.2.2.2.2.2.2.2.1 (by rw [getD_set_ne _ (by decide)] at h; exact h)), (fun h => HFF.out.2.2.2.2.2.2.2.2.2.2.2.2.2.2.2.2.1 (by rw [getD_set_ne _ (by decide)] at h; exact h)), (fun h => HFF.out.2.2.2.2.2.2.2.2.2.2.2.2.2.2.2.2.2.1 (by rw [getD_set_ne _ (by decide)] at h; exact h)), (fun _ => rfl), (fun h => HFF.out.2.2.2.2.2.2.2.2.2.2.2.2.2.2.2.2.2.2.2 (by rw [getD_set_ne _ (by decide)] at h; exact h)), HBW.out, ?_⟩
          intro h
          rw [getD_set_ne _ (by decide)] at h
          obtain ⟨g, hgl, e19, z1, z2⟩ := H19.out h
          rw [getD_set_ne _ (by decide)]
          exact ⟨g, hgl, by simp [e19], fun h => (z1 h), fun h => (z2 h)⟩
        · -- operation 19
          cases ho
          have HUN := Lib.hid hun
          have n20 : li.getD 20 false = false := by
            cases hx : li.getD 20 false
            · rfl
            · have := HC.out 20 _ rfl hx ⟨19, .data⟩ (by simp) rfl
              rw [get_def this] at hun; cases hun
          have HFF := Lib.hid (And.intro f0 ( And.intro f1 ( And.intro f2 ( And.intro f3 ( And.intro f4 ( And.intro f5 ( And.intro f6 ( And.intro f7 ( And.intro f8 ( And.intro f9 ( And.intro f10 ( And.intro f11 ( And.intro f12 ( And.intro f13 ( And.intro f14 ( And.intro f15 ( And.intro f16 ( And.intro f17 ( And.intro f18 (f21))))))))))))))))))))
          clear f0 f1 f2 f3 f4 f5 f6 f7 f8 f9 f10 f11 f12 f13 f14 f15 f16 f17 f18 f21 hun
          refine Ri9.wpOp_list rfl ?_
          go_wp2
          refine (HJ.out _ _ _).2 ⟨fun k => if k = 19 then .pointer (some ⟨W.heap.size, 0, none⟩) else v k, by simp [], (fun h => HFF.out.1 (by rw [getD_set_ne _ (by decide)] at h; exact h)), (fun h => HFF.out.2.1 (by rw [getD_set_ne _ (by decide)] at h; exact h)), (fun h => HFF.out.2.2.1 (by rw [getD_set_ne _ (by decide)] at h; exact h)), (fun h => HFF.out.2.2.2.1 (by rw [getD_set_ne _ (by decide)] at h; exact h)), (fun h => HFF.out.2.2.2.2.1 (by rw [getD_set_ne _ (by decide)] at h; exact h)), (fun h => HFF.out.2.2.2.2.2.1 (by rw [getD_set_ne _ (by decide)] at h; exact h)), (fun h => HFF.out.2.2.2.2.2.2.1 (by rw [getD_set_ne _ (by decide)] at h; exact h)), (fun h => HFF.out.2.2.2.2.2.2.2.1 (by rw [getD_set_ne _ (by decide)] at h; exact h)), (fun h => HFF.out.2.2.2.2.2.2.2.2.1 (by rw [getD_set_ne _ (by decide)] at h; exact h)), (fun h => HFF.out.2.2.2.2.2.2.2.2.2.1 (by rw [getD_set_ne _ (by decide)] at h; exact h)), (fun h => HFF.out.2.2.2.2.2.2.2.2.2.2.1 (by rw [getD_set_ne _ (by decide)] at h; exact h)), (fun h => HFF.out.2.2.2.2.2.2.2.2.2.2.2.1 (by rw [getD_set_ne _ (by decide)] at h; exact h)), (fun h => HFF.out.2.2.2.2.2.2.2.2.2.2.2.2.1 (by rw [getD_set_ne _ (by decide)] at h; exact h)), (fun h => HFF.out.2.2.2.2.2.2.2.2.2.2.2.2.2.1 (by rw [getD_set_ne _ (by decide)] at h; exact h)), (fun h => HFF.out.2.2.2.2.2.2.2.2.2.2.2.2.2.2.1 (by rw [getD_set_ne _ (by decide)] at h; exact h)), (fun h => HFF.out.2.2.2.2.2.2.2.2.2.2.2.2.2.2.2.1 (by rw [getD_set_ne _ (by decide)] at h; exact h)), (fun h => HFF.out.2.2.2.2.2.2.2.2.2.2.2.2.2.2.2.2.1 (by rw [getD_set_ne _ (by decide)] at h; exact h)), (fun h => HFF.out.2.2.2.2.2.2.2.2.2.2.2.2.2.2.2.2.2.1 (by rw [getD_set_ne _ (by decide)] at h; exact h)), (fun h => HFF.out.2.2.2.2.2.2.2.2.2.2.2.2.2.2.2.2.2.2.1 (by rw [getD_set_ne _ (by decide)] at h; exact h)), (fun h => HFF.out.2.2.2.2.2.2.2.2.2.2.2.2.2.2.2.2.2.2.2 (by rw [getD_set_ne _ (by decide)] at h; exact h)), HBW.out.al _, ?_⟩
          intro _
          refine ⟨W.heap.size, HBW.out.size, rfl, fun _ => Bk.nw _ _ _, fun h => ?_⟩
          rw [getD_set_ne _ (by decide), n20] at h; cases h
        · -- operation 20
          cases ho
          have e17 := f17 (HAF.out ⟨17, .data⟩ (by simp) rfl)
          have HUN := Lib.hid hun
          have c19 := HAF.out ⟨19, .data⟩ (by simp) rfl
          obtain ⟨g, hgl, e19, hg0, _⟩ := H19.out c19
          have n20 : li.getD 20 false = false := by
            cases hx : li.getD 20 false
            · rfl
            · rw [get_def hx] at hun; cases hun
          have HG := Lib.hid (hg0 n20)
          have y0 := HG.out.cell 0
          have y1 := HG.out.cell 1
          have y2 := HG.out.fr 0
          have y3 := HG.out.fr 1
          clear hg0
          have HFF := Lib.hid (And.intro f0 ( And.intro f1 ( And.intro f2 ( And.intro f3 ( And.intro f4 ( And.intro f5 ( And.intro f6 ( And.intro f7 ( And.intro f8 ( And.intro f9 ( And.intro f10 ( And.intro f11 ( And.intro f12 ( And.intro f13 ( And.intro f14 ( And.intro f15 ( And.intro f16 ( And.intro f17 ( And.intro f18 (f21))))))))))))))))))))
          clear f0 f1 f2 f3 f4 f5 f6 f7 f8 f9 f10 f11 f12 f13 f14 f15 f16 f17 f18 f21 hun
          refine Ri9.wpOp_list rfl ?_
          go_wp2
          refine (HJ.out _ _ _).2 ⟨v, by simp [e17, e19], (fun h => HFF.out.1 (by rw [getD_set_ne _ (by decide)] at h; exact h)), (fun h => HFF.out.2.1 (by rw [getD_set_ne _ (by decide)] at h; exact h)), (fun h => HFF.out.2.2.1 (by rw [getD_set_ne _ (by decide)] at h; exact h)), (fun h => HFF.out.2.2.2.1 (by rw [getD_set_ne _ (by decide)] at h; exact h)), (fun h => HFF.out.2.2.2.2.1 (by rw [getD_set_ne _ (by decide)] at h; exact h)), (fun h => HFF.out.2.2.2.2.2.1 (by rw [getD_set_ne _ (by decide)] at h; exact h)), (fun h => HFF.out.2.2.2.2.2.2.1 (by rw [getD_set_ne _ (by decide)] at h; exact h)), (fun h => HFF.out.2.2.2.2.2.2.2.1 (by rw [getD_set_ne _ (by decide)] at h; exact h)), (fun h => HFF.out.2.2.2.2.2.2.2.2.1 (by rw [getD_set_ne _ (by decide)] at h; exact h)), (fun h => HFF.out.2.2.2.2.2.2.2.2.2.1 (by rw [getD_set_ne _ (by decide)] at h; exact h)), (fun h => HFF.out.2.2.2.2.2.2.2.2.2.2.1 (by rw [getD_set_ne _ (by decide)] at h; exact h)), (fun h => HFF.out.2.2.2.2.2.2.2.2.2.2.2.1 (by rw [getD_set_ne _ (by decide)] at h; exact h)), (fun h => HFF.out.2.2.2.2.2.2.2.2.2.2.2.2.1 (by rw [getD_set_ne _ (by decide)] at h; exact h)), (fun h => HFF.out.2.2.2.2.2.2.2.2.2.2.2.2.2.1 (by rw [getD_set_ne _ (by decide)] at h; exact h)), (fun h => HFF.out.2.2.2.2.2.2.2.2.2.2.2.2.2.2.1 (by rw [getD_set_ne _ (by decide)] at h; exact h)), (fun h => HFF.out.2.2.2.2.2.2.2.2.2.2.2.2.2.2.2.1 (by rw [getD_set_ne _ (by decide)] at h; exact h)), (fun h => HFF.out.2.2.2.2.2.2.2.2.2.2.2.2.2.2.2.2.1 (by rw [getD_set_ne _ (by decide)] at h; exact h)), (fun h => HFF.out.2.2.2.2.2.2.2.2.2.2.2.2.2.2.2.2.2.1 (by rw [getD_set_ne _ (by decide)] at h; exact h)), (fun h => HFF.out.2.2.2.2.2.2.2.2.2.2.2.2.2.2.2.2.2.2.1 (by rw [getD_set_ne _ (by decide)] at h; exact h)), (fun h => HFF.out.2.2.2.2.2.2.2.2.2.2.2.2.2.2.2.2.2.2.2 (by rw [getD_set_ne _ (by decide)] at h; exact h)), (HBW.out.st (p := ⟨g, 0, none⟩) hgl _).st (p := ⟨g, 1, none⟩) hgl _, ?_⟩
          intro _
          refine ⟨g, hgl, e19, fun h => ?_, fun _ => (HG.out.st 0 _).st 1 _⟩
          rw [get_set HUN.out] at h; cases h
        · -- operation 21
          cases ho
          have e18 := f18 (HAF.out ⟨18, .data⟩ (by simp) rfl)
          have HFF := Lib.hid (And.intro f0 ( And.intro f1 ( And.intro f2 ( And.intro f3 ( And.intro f4 ( And.intro f5 ( And.intro f6 ( And.intro f7 ( And.intro f8 ( And.intro f9 ( And.intro f10 ( And.intro f11 ( And.intro f12 ( And.intro f13 ( And.intro f14 ( And.intro f15 ( And.intro f16 ( And.intro f17 ( And.intro f18 (f21))))))))))))))))))))
          clear f0 f1 f2 f3 f4 f5 f6 f7 f8 f9 f10 f11 f12 f13 f14 f15 f16 f17 f18 f21 hun
          refine Ri9.wpOp_list rfl ?_
          go_wp2
          refine (HJ.out _ _ _).2 ⟨fun k => if k = 21 then .int .i64 0 else v k, by simp [e18], (fun h => HFF.out.1 (by rw [getD_set_ne _ (by decide)] at h; exact h)), (fun h => HFF.out.2.1 (by rw [getD_set_ne _ (by decide)] at h; exact h)), (fun h => HFF.out.2.2.1 (by rw [getD_set_ne _ (by decide)] at h; exact h)), (fun h => HFF.out.2.2.2.1 (by rw [getD_set_ne _ (by decide)] at h; exact h)), (fun h => HFF.out.2.2.2.2.1 (by rw [getD_set_ne _ (by decide)] at h; exact h)), (fun h => HFF.out.2.2.2.2.2.1 (by rw [getD_set_ne _ (by decide)] at h; exact h)), (fun h => HFF.out.2.2.2.2.2.2.1 (by rw [getD_set_ne _ (by decide)] at h; exact h)), (fun h => HFF.out.2.2.2.2.2.2.2.1 (by rw [getD_set_ne _ (by decide)] at h; exact h)), (fun h => HFF.out.2.2.2.2.2.2.2.2.1 (by rw [getD_set_ne _ (by decide)] at h; exact h)), (fun h => HFF.out.2.2.2.2.2.2.2.2.2.1 (by rw [getD_set_ne _ (by decide)] at h; exact h)), (fun h => HFF.out.2.2.2.2.2.2.2.2.2.2.1 (by rw [getD_set_ne _ (by decide)] at h; exact h)), (fun h => HFF.out.2.2.2.2.2.2.2.2.2.2.2.1 (by rw [getD_set_ne _ (by decide)] at h; exact h)), (fun h => HFF.out.2.2.2.2.2.2.2.2.2.2.2.2.1 (by rw [getD_set_ne _ (by decide)] at h; exact h)), (fun h => HFF.out.2.2.2.2.2.2.2.2.2.2.2.2.2.1 (by rw [getD_set_ne _ (by decide)] at h; exact h)), (fun h => HFF.out.2.2.2.2.2.2.2.2.2.2.2.2.2.2.1 (by rw [getD_set_ne _ (by decide)] at h; exact h)), (fun h => HFF.out.2.2.2.2.2.2.2.2.2.2.2.2.2.2.2.1 (by rw [getD_set_ne _ (by decide)] at h; exact h)), (fun h => HFF.out.2.2.2.2.2.2.2.2.2.2.2.2.2.2.2.2.1 (by rw [getD_set_ne _ (by decide)] at h; exact h)), (fun h => HFF.out.2.2.2.2.2.2.2.2.2.2.2.2.2.2.2.2.2.1 (by rw [getD_set_ne _ (by decide)] at h; exact h)), (fun h => HFF.out.2.2.2.2.2.2.2.2.2.2.2.2.2.2.2.2.2.2.1 (by rw [getD_set_ne _ (by decide)] at h; exact h)), (fun _ => rfl), HBW.out, ?_⟩
          intro h
          rw [getD_set_ne _ (by decide)] at h
          obtain ⟨g, hgl, e19, z1, z2⟩ := H19.out h
          rw [getD_set_ne _ (by decide)]
          exact ⟨g, hgl, by simp [e19], fun h => (z1 h), fun h => (z2 h)⟩
        · exact absurd ho (by simp)
      · intro li a W hJ3 hall
        obtain ⟨v, rfl, f0, f1, f2, f3, f4, f5, f6, f7, f8, f9, f10, f11, f12, f13, f14, f15, f16, f17, f18, f21, hB, h19⟩ := (HJ.out _ _ _).1 hJ3
        have hal : ∀ j, j < 22 → li.getD j false = true := fun j hj => hall j hj
        have e21 := f21 (hal 21 (by omega))
        obtain ⟨g, hgl, e19, _, hgk⟩ := h19 (hal 19 (by omega))
        have hgk := hgk (hal 20 (by omega))
        clear h19 hall hJ3 hal f0 f1 f2 f3 f4 f5 f6 f7 f8 f9 f10 f11 f12 f13 f14 f15 f16 f17 f18 f21
        have HBW := Lib.hid hB
        have HG := Lib.hid hgk
        have HT1 := Lib.hid (HT.out.bel hB)
        clear hB hgk
        rw [e19, e21]
        clear e19 e21
        have y0 := HT1.out.cell 0
        have y1 := HT1.out.cell 1
        have y2 := HG.out.cell 0
        have y3 := HG.out.cell 1
        have HVV := Lib.hid (HVP.out _ _ hvl)
        have hfn := (HF.out.1 t hlt)
        have htn := HTQ.out t ht
        have AK : Hid (∀ Z, _) := fun Z => add_vl nn dd t' u' (tq f t) (f t) C HV.out HVV.out C1 (by omega) htn.1 hfn.1 (by have : (t : Int) ≤ 8 := by omega
                                                                                                                            omega) Z
        clear hfn htn
        go_wp2_with (go_at_call 55; refine (AK.out _).mono ?_; rintro e w9 ⟨t2, u2, rfl, hv2, hb9⟩; have B9 := HT1.out.bel hb9; have q0 := B9.cell 0; have q1 := B9.cell 1; have q2 := B9.fr 0; have q3 := B9.fr 1; have HB9 := Lib.hid B9; clear B9)
        go_roundw
        case rel =>
          have hb' : Bel w w9 := (HB.out.tr HBW.out).tr hb9
          refine ⟨t + 1, _, t2, u2, rfl, by omega, by go_num, (HB9.out.st 0 _).st 1 _, (((HR.out.bel HBW.out).bel hb9).far (by show w.heap.size ≠ w.heap.size + 1; omega) _).far (by show w.heap.size ≠ w.heap.size + 1; omega) _, hv2, (hb'.st (by show w.heap.size ≤ w.heap.size + 1; omega) _).st (by show w.heap.size ≤ w.heap.size + 1; omega) _⟩
        case measure => simp [intOf]; omega
    · obtain rfl : t = n := by omega
      have y0 := htb.cell 0
      have y1 := htb.cell 1
      have y2 := hrb.cell 0
      have y3 := hrb.cell 1
      have y4 := hrb.fr 0
      have y5 := hrb.fr 1
      have z2 := hrb.lt
      clear htb hrb hv hb
      go_wp2
      refine bodyPost_ret (v := .tuple #[.agg #[.int .i64 nn, .int .i64 dd], .int .i64 0]) (results_ct Try.results35 _ _ w.heap.size (.int .i64 nn) (.int .i64 dd) rfl ((HR.out.st 0 _).st 1 _)) rfl ?_
      exact ⟨nn, dd, rfl, HV.out, (HB.out.st (by show w.heap.size ≤ w.heap.size; omega) _).st (by show w.heap.size ≤ w.heap.size; omega) _⟩
end Go.Proofs.Ytkonknkoggfeaaa.Pc
