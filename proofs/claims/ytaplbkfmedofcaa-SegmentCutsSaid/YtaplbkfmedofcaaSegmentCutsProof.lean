/- That the law SegmentCuts returns true for every input that can be read, and leaves its arguments as they were; no further condition. -/
import Derived.Test.YtaplbkfmedofcaaRows
import Derived.WalkKit
import Derived.ProofKit
import Derived.OpenShut
import Derived.Test.YtaplbkfmedofcaaWords
import Derived.Test.YtaplbkfmedofcaaSrcNew0
import Derived.Test.YtaplbkfmedofcaaSgAll
import Derived.ShutString
import Derived.ChangeOld
import Derived.Below
namespace Go.Proofs.Ytaplbkfmedofcaa.segmentCuts
open Go.ChangeShapes Go.WideShapes Go.ChangeAt Go.RowKit Wo
open Go.ChangeMaps (open_string shut_string)
set_option linter.unusedVariables false

theorem own : ownKnob Try.prog.godebug = none := by kernel_rfl
theorem laidOut : laidOutB Try.prog = true := by kernel_rfl

/-- WHAT THE WALK IS TOLD OF A SLICE OF INTEGERS THAT CAME IN: it is nil; or it leads to a row of 'cap' cells, the numbers 'zs' (the first 'len' are its elements, the rest its spare room), each fitting its kind. -/
def IsRow (k : IntKind) (w : World) (a : Option Addr) (len cap : Nat) (zs : List Int) : Prop :=
  (a = none ∧ len = 0 ∧ cap = 0 ∧ zs = []) ∨
  ∃ x, a = some x ∧ len ≤ cap ∧ cap ≤ maxLen ∧ zs.length = cap ∧ (∀ i, i < zs.length → w.cell? (x.add i) = some (.int k (zs.getD i 0))) ∧ ∀ n ∈ zs, (Lit.int k n).wf = true

open Go.Proofs.Ytaplbkfmedofcaa.Se Go.Proofs.Ytaplbkfmedofcaa.Pk Go.Proofs.Ytaplbkfmedofcaa.Sg Go.Proofs.Ytaplbkfmedofcaa.Wi Go.Proofs.Ytaplbkfmedofcaa.Wo Go.Proofs.Ytaplbkfmedofcaa.Sr in
set_option maxHeartbeats 8000000 in
set_option maxRecDepth 100000 in
theorem walk (a0 : Option Addr) (len0 cap0 : Nat) (z0 : List Int) (w : World) (w0 : IsRow .i64 w a0 len0 cap0 z0) :
    Calls Try.prog 7 #[.slice a0 len0 cap0] w fun e w' => e = .returned (.bool true) ∧ Below w.heap.size w w' := by
  have AW : Hid (∀ W, Calls Try.prog 8 #[] W fun e w' => e = .returned (.bool true) ∧ Bel W w') := awake10_ok
  go_enter Try.func7, Try.ntmps7
  go_wp2_with fail
  go_at_call 10
  refine (new_any a0 len0 cap0 z0 w w0).mono ?_
  rintro e v1 ⟨g, rfl, hg, ho1, hb1⟩
  have HO1 := Lib.hid ho1
  have HB1 := Lib.hid hb1
  clear ho1 hb1 w0
  go_wp2_with fail
  go_at_call 17
  refine (series_any g 60 (by decide) _ HO1.out).mono ?_
  rintro e v2 ⟨st, sp, A, n, c, L, rfl, st0, st1, sp0, sp1, n60, hsv, hvs, _, _, hc⟩
  have HB2 : Hid (Bel w v2) := Bel.ch HB1.out hc hg
  have HSB : Hid (Sb st sp n) := ⟨st0, by omega, sp0, sp1, by omega⟩
  have HSV := Lib.hid hsv
  have HL := Lib.hid hvs.1.1
  have HS := Lib.hid (Bk.nw v2 43 #[.int .i64 st, .int .i64 sp, .slice A n c])
  have HB0 : Hid (Bel w (v2.alloc (.cells #[.int .i64 st, .int .i64 sp, .slice A n c] 43))) := HB2.out.al _
  have HV0 : Hid (Vs (v2.alloc (.cells #[.int .i64 st, .int .i64 sp, .slice A n c] 43)) A n c L) := hvs.bel (Bel.rf.al _)
  obtain ⟨V0, hV0⟩ : ∃ V0, v2.alloc (.cells #[.int .i64 st, .int .i64 sp, .slice A n c] 43) = V0 := ⟨_, rfl⟩
  rw [hV0] at HS HB0 HV0
  have ni : (n : Int) ≤ 60 := by omega
  clear hsv hvs hc
  have s0 : V0.cell? ⟨v2.heap.size, 0, none⟩ = some (.int .i64 st) := HS.out.cell 0
  have s1 : V0.cell? ⟨v2.heap.size, 1, none⟩ = some (.int .i64 sp) := HS.out.cell 1
  have s2 : V0.cell? ⟨v2.heap.size, 2, none⟩ = some (.slice A n c) := HS.out.cell 2
  have sl := HS.out.lt
  have HST : Hid (∀ W, Bel V0 W → _) := fun W hW => store_ok st sp A n c L HSB.out HSV.out W (HV0.out.bel hW)
  have HRU : Hid (∀ W, Bel V0 W → _) := fun W hW => rruns_ok st sp A n c L HSB.out HSV.out W (HV0.out.bel hW).1
  go_wp2_with fail
  (try rw [hV0])
  go_wp2_with fail
  clear hV0
  go_at_call 18
  refine (HST.out _ Bel.rf).mono ?_
  rintro e v3 ⟨u, N, us, rfl, hN, hus, hown, hsr, hb3⟩
  obtain ⟨A3, c3, rfl, hz3⟩ := own_zsg hown hus
  have HB3 : Hid (Bel V0 v3) := hb3
  have t0 : v3.cell? ⟨v2.heap.size, 0, none⟩ = some (.int .i64 st) := hb3.kp s0
  have t1 : v3.cell? ⟨v2.heap.size, 1, none⟩ = some (.int .i64 sp) := hb3.kp s1
  have t2 : v3.cell? ⟨v2.heap.size, 2, none⟩ = some (.slice A n c) := hb3.kp s2
  have tl : v2.heap.size < v3.heap.size := by have := hb3.size; omega
  rw [cks_short (by have := HL.out; omega)] at hN hsr
  have HZ3 := Lib.hid hz3
  have HSR := Lib.hid hsr
  have HN := Lib.hid hN
  clear hN hb3 s0 s1 s2 sl hown hz3 hsr hus
  go_wp2_with fail
  go_at_call 24
  refine (HRU.out _ HB3.out).mono ?_
  rintro e v4 ⟨A4, m, c4, rfl, hm, hz4, hb4⟩
  have HB4 : Hid (Bel v3 v4) := hb4
  have HML : m ≤ 60 := by have := runs_len L; have := HL.out; omega
  have HAS : Hid (∀ t, t < m → 1 ≤ ct (rns L 0 0) t ∧ fr (rns L 0 0) t + ct (rns L 0 0) t ≤ n ∧ ∀ j, j < ct (rns L 0 0) t → L.getD (fr (rns L 0 0) t + j) 0 ≠ 1073741824) := fun t ht => by
    have h := asc_at (rns L 0 0) (-1) t (asc_all L) (by rw [← hm]; exact ht)
    rw [HL.out] at h
    refine ⟨h.2.2.1, h.2.2.2.1, fun j hj => ?_⟩
    have := h.2.2.2.2 j hj
    rwa [getD_two (by have := HL.out; have := h.2.2.2.1; omega)] at this
  have HSK : Hid (∀ t, t < m → Sok v3 L (fr (rns L 0 0) t, ct (rns L 0 0) t) (us.getD t (0, undef))) := fun t ht => HSR.out.2 t (by rw [← hm]; exact ht)
  obtain rfl : N = m := by rw [HN.out, hm]
  obtain ⟨R, hR⟩ : ∃ R, rns L 0 0 = R := ⟨_, rfl⟩
  rw [hR] at HAS HSK hz4
  have HZ4 := Lib.hid hz4
  have mi : (N : Int) ≤ 60 := by omega
  clear HN hm hR hz4 hb4 HSR t0 t1 t2 tl
  go_wp2
  go_loopw [31] (fun s31 wr => ∃ (t : Nat) (V : World), V = wr ∧ t ≤ N ∧ s31 = .int .i64 (t : Int) ∧ Bel v4 V) (fun s31 _ => N - (intOf s31).toNat)
  case atStart => exact ⟨0, _, rfl, Nat.zero_le _, rfl, by first | exact Bel.rf | exact Bel.rf.drw | exact Bel.rf.drwN _⟩
  case round =>
    obtain ⟨t, wr, hwr, ht, rfl, hb⟩ := hrel
    subst hwr
    have HB := Lib.hid hb
    rcases Nat.lt_or_ge t N with htm | htm
    · obtain ⟨Q, rfl, hql, hqc⟩ := (HZ4.out.bel hb).2 (by omega)
      obtain ⟨P, rfl, hpl, hpc⟩ := (HZ3.out.bel (HB4.out.tr hb)).2 (by omega)
      obtain ⟨k1, fkn, hpr⟩ := HAS.out t htm
      have r1 := (hqc t htm).1
      have r2 := (hqc t htm).2
      have p1 := (hpc t htm).1
      have p2 := (hpc t htm).2
      obtain ⟨q1, N1, q2, q3⟩ := (HSK.out t htm).bel (HB4.out.tr hb)
      rw [q1] at p1
      obtain ⟨f, hf⟩ : ∃ f, fr R t = f := ⟨_, rfl⟩
      obtain ⟨k, hk⟩ : ∃ f, ct R t = f := ⟨_, rfl⟩
      obtain ⟨U, hU⟩ : ∃ U, (us.getD t (0, undef)).2 = U := ⟨_, rfl⟩
      rw [hU] at p2 q3
      simp only [hf, hk] at k1 fkn hpr r1 r2 p1 q2 q3
      have hv := piece_vx (t := 0) HSV.out HL.out fkn hpr (by omega)
      rw [show f + 64 * 0 = f by omega, show min 64 (k - 64 * 0) = k by omega] at hv
      have hN1 := (seg_len hv).1
      have hN2 := (seg_len hv).2.1
      rw [q2] at hN1 hN2
      obtain ⟨h1, c1, rfl, hc1, hcm, _, hrd⟩ := own_rd q3 (seg_byte hv) q2 (by omega)
      obtain ⟨G, rfl⟩ : ∃ G, A = some ⟨G, 0, none⟩ := by
        rcases HV0.out.2.2 with ⟨_, h2⟩ | h
        · exfalso; have := HV0.out.2.1; omega
        · exact h
      have hnc := HV0.out.2.1
      have hz := zi_part (HV0.out.bel (HB3.out.tr (HB4.out.tr hb))).1 f k (by omega)
      have hxl : ((L.drop f).take k).length = k := by have := HL.out; simp; omega
      obtain ⟨x, hx⟩ : ∃ x, (L.drop f).take k = x := ⟨_, rfl⟩
      rw [hx] at hv hrd hz hxl
      have HDC : Hid (∀ W, Bel wr W → _) := fun W hW => dec_any (some ⟨h1, 0, none⟩) c1 N1 (seg x) (by omega) hc1 hcm W (hrd.bel hW)
      have HX := Lib.hid (And.intro hv (And.intro hxl hz))
      have d2 : wr.cell? ⟨v2.heap.size, 2, none⟩ = some (.slice (some ⟨G, 0, none⟩) n c) := (HS.out.bel (HB3.out.tr (HB4.out.tr hb))).cell 2
      have HD := Lib.hid (And.intro r1 (And.intro r2 (And.intro p1 (And.intro p2 d2))))
      obtain ⟨E, hE⟩ : ∃ E, f + k = E := ⟨_, rfl⟩
      obtain ⟨e1, e2, fE, Ec, fc, Ef⟩ := cut_facts hE k1 fkn (Nat.le_trans n60 (by decide)) hnc
      have tmi : (t : Int) < (N : Int) := Int.ofNat_lt.2 htm
      clear hb hql hqc hpl hpc k1 fkn hpr q1 q2 q3 hf hk hU hv hN1 hN2 hc1 hcm hrd hnc hz hxl hx hE r1 r2 p1 d2
      go_wp2_with fail
      go_at_call 12
      refine (HDC.out _ (by first | exact Bel.rf | exact Bel.rf.drwN _)).mono ?_
      rintro e v6 ⟨A6, n6, c6, L6, er, rfl, hz6, h61, h62, h63, h64, h65, hb6, _, _, hx6⟩
      obtain ⟨her, hLx⟩ := hx6 x HX.out.1 rfl
      subst her hLx
      have HB6 : Hid (Bel wr v6) := by first | exact hb6 | exact (Bel.rf.drwN _).tr hb6
      have hn6 := hz6.1
      obtain rfl : n6 = k := by have := HX.out.2.1; omega
      have HIN : Hid (∀ W, Bel v6 W → _) := fun W hW => Wi.ints_same A6 (some ⟨G, f, none⟩) c6 (c - f) n6 L6 (by omega) W (hz6.bel hW) (HX.out.2.2.bel (HB6.out.tr hW))
      have r1 := HB6.out.kp HD.out.1
      have r2 := HB6.out.kp HD.out.2.1
      have p1 := HB6.out.kp HD.out.2.2.1
      have d2 := HB6.out.kp HD.out.2.2.2.2
      clear hb6 hx6 hz6 h64 h65 hn6 p2
      go_wp2_with fail
      have KS : Hid (∀ W', Bel v6 W' → (fun w' => w'.cell? ⟨Q, t * 2, none⟩ = some (.int .i64 (f : Int)) ∧ w'.cell? ⟨Q, t * 2 + 1, none⟩ = some (.int .i64 (n6 : Int)) ∧ w'.cell? ⟨P, t * 2, none⟩ = some (.int .i64 (f : Int)) ∧ w'.cell? ⟨v2.heap.size, 2, none⟩ = some (.slice (some ⟨G, 0, none⟩) n c)) W') := fun W' h => ⟨h.kp r1, h.kp r2, h.kp p1, h.kp d2⟩
      clear r1 r2 p1 d2 h61 h62 h63
      go_region_held3 (fun w' => w'.cell? ⟨Q, t * 2, none⟩ = some (.int .i64 (f : Int)) ∧ w'.cell? ⟨Q, t * 2 + 1, none⟩ = some (.int .i64 (n6 : Int)) ∧ w'.cell? ⟨P, t * 2, none⟩ = some (.int .i64 (f : Int)) ∧ w'.cell? ⟨v2.heap.size, 2, none⟩ = some (.slice (some ⟨G, 0, none⟩) n c))
        (exact KS.out _ (by repeat (first | exact Bel.rf | (with_reducible refine Bel.drwN ?_ _) | (with_reducible refine Bel.drw ?_) | (with_reducible refine Bel.al ?_ _) | (refine Bel.tr ?_ (by assumption)))))
        ((go_at_call 14; (with_reducible refine (HIN.out _ (by repeat (first | exact Bel.rf | (with_reducible refine Bel.drwN ?_ _) | (with_reducible refine Bel.drw ?_) | (with_reducible refine Bel.al ?_ _) | (refine Bel.tr ?_ (by assumption))))).mono ?_); rintro e y1 ⟨rfl, hy1⟩))
      all_goals
        go_wp2
        go_roundw
        case rel => exact ⟨t + 1, _, rfl, by omega, by go_num, HB.out.tr (HB6.out.tr (by repeat (first | exact Bel.rf | (with_reducible refine Bel.drwN ?_ _) | (with_reducible refine Bel.drw ?_) | (with_reducible refine Bel.al ?_ _) | (refine Bel.tr ?_ (by assumption)))))⟩
        case measure => simp [intOf]; omega
    · obtain rfl : t = N := by omega
      clear hb
      go_wp2_with (go_at_call 8; refine (AW.out _).mono ?_; rintro e w9 ⟨rfl, hb9⟩)
      go_ret
      exact ⟨rfl, (HB0.out.tr (HB3.out.tr (HB4.out.tr (HB.out.tr (by first | exact hb9 | exact (Bel.rf.drwN _).tr hb9))))).bl⟩

set_option maxRecDepth 100000 in
theorem lifted (os : Os) (started : os.Started) (H : Type) (enc : TypeId × Value → H) :
    ReturnsInHanded {} Try.checked os 7 .any (Rows.segmentCutsSpec.pre6 enc Try.prog Try.f7 Rows.segmentCutsRow.domain false) (Rows.segmentCutsSpec.post enc Try.prog Try.f7 false true false false) := by
  refine returnsInHanded_of_change (C := Try.checked) own started (by kernel_rfl) Try.func7
    (ChangeSpec.witness6 (enc := enc) (C := Try.checked) false ⟨#[], #[.slice none 0 0], []⟩ 8 (by kernel_rfl) (by kernel_rfl) (by kernel_rfl) (by kernel_rfl)) ?_
  intro W base args ds gs before hval0 hW hcnd _
  have hval : ∀ (j : Nat) t v, Try.f7.params[j]? = some t → args[j]? = some v → Value.okWide Try.prog W .any base t v := hval0
  have hW' := hW
  obtain ⟨p, q, hA0, hV, rfl, hfz, hnd⟩ := hW
  have hA : DataW.TrodAll enc Try.prog W 0 (fun _ => true) true Try.f7.params.toList args.toList ds p := hA0
  rw [Try.params7] at hA hval
  obtain ⟨v0, vs0, d0, ds0, p0, q0, hargs, rfl, rfl, h0, r0⟩ := trodAll_cons hA
  obtain ⟨rfl, rfl, rfl⟩ := trodAll_nil r0
  obtain rfl : args = #[v0] := by cases args; simp_all
  obtain ⟨rfl, rfl⟩ := trodVars_none hV
  obtain ⟨a0, len0, cap0, rfl⟩ := okWide_slice Try.underlying22 (hval 0 22 v0 rfl rfl)
  have k0 := h0
  have lt0 : ∀ x ∈ p0, x.block < W.heap.size := by obtain ⟨m, hm⟩ := k0; exact DataW.trod_lt m _ _ _ hm
  obtain ⟨z0, w0⟩ : ∃ zs, IsRow .i64 W a0 len0 cap0 zs := by
    obtain ⟨fuel, hf⟩ := h0
    rcases open_ints Try.underlying22 Try.underlying3 (by kernel_rfl) hf with ⟨hcs, _⟩ | ⟨x, l, c, zs, hcs, _, hl, hm, hz, _, hcell, hwz⟩
    · simp [Value.cells] at hcs
      obtain ⟨rfl, rfl, rfl⟩ := hcs
      exact ⟨[], .inl ⟨rfl, rfl, rfl, rfl⟩⟩
    · simp [Value.cells] at hcs
      obtain ⟨rfl, rfl, rfl⟩ := hcs
      exact ⟨zs, .inr ⟨_, rfl, hl, hm, by simpa using hz, hcell, hwz⟩⟩
  clear hA0 hval0
  refine (walk a0 len0 cap0 z0 W w0).mono fun e W' ⟨he, bel⟩ => ?_
  subst he
  exact ⟨_, rfl, _, _, _, [], _, [], hW', trodAll_mk1 (shut_bool Try.underlying4 _), (trodAll_cons_mk (Below.trod laidOut (by kernel_rfl) (of_decide_eq_true (by kernel_rfl)) k0 bel lt0) trodAll_mk0), rfl, bel.frame _, fun h => by cases h⟩

theorem over : Rows.segmentCutsRow.holds Try.pinned (OpenSpec.ofChange Rows.segmentCutsSpec) :=
  OpenClaim.holds_of_wide 7 Try.f7 rfl rfl rfl rfl rfl rfl rfl ⟨rfl, rfl, rfl, rfl, rfl⟩ rfl rfl rfl rfl rfl (by kernel_rfl) Try.func7 (by kernel_rfl)
    (of_decide_eq_true (by kernel_rfl)) (by unfold Func.isWrapper; first | (rw [if_pos (by decide +kernel)]; kernel_rfl) | (rw [if_neg (by decide +kernel)]; exact ⟨rfl, rfl⟩))
    (fun os started H enc _ => lifted os started H enc)

theorem proved : Rows.SegmentCutsSaid := over
end Go.Proofs.Ytaplbkfmedofcaa.segmentCuts
