/- That the law SegmentLossless returns true for every input that can be read, and leaves its arguments as they were; no further condition. -/
import Derived.Test.YtaplbkfmedofcaaRows
import Derived.WalkKit
import Derived.ProofKit
import Derived.OpenShut
import Derived.Test.YtaplbkfmedofcaaWords
import Derived.Test.YtaplbkfmedofcaaSrcNew0
import Derived.Test.YtaplbkfmedofcaaSgLL
import Derived.ShutString
import Derived.ChangeOld
import Derived.Below
namespace Go.Proofs.Ytaplbkfmedofcaa.segmentLossless
open Go.ChangeShapes Go.WideShapes Go.ChangeAt Go.RowKit Wo
open Go.ChangeMaps (open_string shut_string)
set_option linter.unusedVariables false

theorem own : ownKnob Try.prog.godebug = none := by kernel_rfl
theorem laidOut : laidOutB Try.prog = true := by kernel_rfl

/-- WHAT THE WALK IS TOLD OF A SLICE OF INTEGERS THAT CAME IN: it is nil; or it leads to a row of 'cap' cells, the numbers 'zs' (the first 'len' are its elements, the rest its spare room), each fitting its kind. -/
def IsRow (k : IntKind) (w : World) (a : Option Addr) (len cap : Nat) (zs : List Int) : Prop :=
  (a = none ∧ len = 0 ∧ cap = 0 ∧ zs = []) ∨
  ∃ x, a = some x ∧ len ≤ cap ∧ cap ≤ maxLen ∧ zs.length = cap ∧ (∀ i, i < zs.length → w.cell? (x.add i) = some (.int k (zs.getD i 0))) ∧ ∀ n ∈ zs, (Lit.int k n).wf = true

open Go.Proofs.Ytaplbkfmedofcaa.Se Go.Proofs.Ytaplbkfmedofcaa.Pk Go.Proofs.Ytaplbkfmedofcaa.Sg Go.Proofs.Ytaplbkfmedofcaa.Wi Go.Proofs.Ytaplbkfmedofcaa.Wo Go.Proofs.Ytaplbkfmedofcaa.Sr in
set_option maxHeartbeats 8000000 in
set_option maxRecDepth 100000 in
theorem walk (a0 : Option Addr) (len0 cap0 : Nat) (z0 : List Int) (w : World) (w0 : IsRow .i64 w a0 len0 cap0 z0) :
    Calls Try.prog 5 #[.slice a0 len0 cap0] w fun e w' => e = .returned (.bool true) ∧ Below w.heap.size w w' := by
  have AW : Hid (∀ W, Calls Try.prog 8 #[] W fun e w' => e = .returned (.bool true) ∧ Bel W w') := awake10_ok
  go_enter Try.func5, Try.ntmps5
  go_wp2_with fail
  go_at_call 10
  refine (new_any a0 len0 cap0 z0 w w0).mono ?_
  rintro e v1 ⟨g, rfl, hg, ho1, hb1⟩
  have HO1 := Lib.hid ho1
  have HB1 := Lib.hid hb1
  clear ho1 hb1 w0
  go_wp2_with fail
  go_at_call 17
  refine (series_any g 200 (by decide) _ HO1.out).mono ?_
  rintro e v2 ⟨st, sp, A, n, c, L, rfl, st0, st1, sp0, sp1, n200, hsv, hvs, _, _, hc⟩
  have HB2 : Hid (Bel w v2) := Bel.ch HB1.out hc hg
  have HSB : Hid (Sb st sp n) := ⟨st0, by omega, sp0, sp1, by omega⟩
  have HSV := Lib.hid hsv
  have HL := Lib.hid hvs.1.1
  have HS := Lib.hid (Bk.nw v2 43 #[.int .i64 st, .int .i64 sp, .slice A n c])
  have HB0 : Hid (Bel w (v2.alloc (.cells #[.int .i64 st, .int .i64 sp, .slice A n c] 43))) := HB2.out.al _
  have HV0 : Hid (Vs (v2.alloc (.cells #[.int .i64 st, .int .i64 sp, .slice A n c] 43)) A n c L) := hvs.bel (Bel.rf.al _)
  obtain ⟨V0, hV0⟩ : ∃ V0, v2.alloc (.cells #[.int .i64 st, .int .i64 sp, .slice A n c] 43) = V0 := ⟨_, rfl⟩
  rw [hV0] at HS HB0 HV0
  have ni : (n : Int) ≤ 200 := by omega
  clear hsv hvs hc
  have s0 : V0.cell? ⟨v2.heap.size, 0, none⟩ = some (.int .i64 st) := HS.out.cell 0
  have s1 : V0.cell? ⟨v2.heap.size, 1, none⟩ = some (.int .i64 sp) := HS.out.cell 1
  have s2 : V0.cell? ⟨v2.heap.size, 2, none⟩ = some (.slice A n c) := HS.out.cell 2
  have sl := HS.out.lt
  have HST : Hid (∀ W, Bel V0 W → _) := fun W hW => store_ok st sp A n c L HSB.out HSV.out W (HV0.out.bel hW)
  have HRS : Hid (∀ W, Bel V0 W → _) := fun W hW => rstarts_ok st sp A n c L HSB.out HSV.out W (HV0.out.bel hW).1
  go_wp2_with fail
  (try rw [hV0])
  go_wp2_with fail
  clear hV0
  go_at_call 18
  refine (HST.out _ Bel.rf).mono ?_
  rintro e v3 ⟨u, N, us, rfl, hN, hus, hown, hsr, hb3⟩
  obtain ⟨A3, c3, rfl, hz3⟩ := own_zsg hown hus
  have HB3 : Hid (Bel V0 v3) := hb3
  have t0 : v3.cell? ⟨v2.heap.size, 0, none⟩ = some (.int .i64 st) := hb3.kp s0
  have t1 : v3.cell? ⟨v2.heap.size, 1, none⟩ = some (.int .i64 sp) := hb3.kp s1
  have t2 : v3.cell? ⟨v2.heap.size, 2, none⟩ = some (.slice A n c) := hb3.kp s2
  have tl : v2.heap.size < v3.heap.size := by have := hb3.size; omega
  have HZ3 := Lib.hid hz3
  have HSR := Lib.hid hsr
  have HN := Lib.hid hN
  have HLO : Hid (∀ W, Bel v3 W → _) := fun W hW => load_ok st sp n L HSB.out HSV.out HL.out n200 A3 c3 N us HN.out W (HZ3.out.bel hW) (HSR.out.bel hW)
  clear hN hb3 s0 s1 s2 sl hown hz3 hsr hus
  go_wp2_with fail
  go_at_call 19
  refine (HLO.out _ (by repeat (first | exact Bel.rf | (with_reducible refine Bel.drwN ?_ _) | (with_reducible refine Bel.drw ?_) | (with_reducible refine Bel.al ?_ _)))).mono ?_
  rintro e v4 ⟨a, rfl, hz4, hb4⟩
  have HB4 : Hid (Bel v3 v4) := by first | exact hb4 | exact (Bel.rf.drwN _).tr hb4
  have HZ4 := Lib.hid hz4
  have HT := Lib.hid (Bk.nw v4 43 #[.int .i64 st, .int .i64 sp, .slice (some ⟨a, 0, none⟩) n n])
  have HB5 : Hid (Bel v3 (v4.alloc (.cells #[.int .i64 st, .int .i64 sp, .slice (some ⟨a, 0, none⟩) n n] 43))) := HB4.out.al _
  have HZ5 : Hid (Zi (v4.alloc (.cells #[.int .i64 st, .int .i64 sp, .slice (some ⟨a, 0, none⟩) n n] 43)) (some ⟨a, 0, none⟩) n L) := hz4.bel (Bel.rf.al _)
  obtain ⟨V5, hV5⟩ : ∃ V, v4.alloc (.cells #[.int .i64 st, .int .i64 sp, .slice (some ⟨a, 0, none⟩) n n] 43) = V := ⟨_, rfl⟩
  rw [hV5] at HT HB5 HZ5
  have HSM : Hid (∀ W, Bel V5 W → _) := fun W hW => same_yes st sp A (some ⟨a, 0, none⟩) c n n L (by omega) W (HV0.out.bel (HB3.out.tr (HB5.out.tr hW))).1 (HZ5.out.bel hW)
  clear t0 t1 t2 tl hz4 hb4
  have t0 : V5.cell? ⟨v2.heap.size, 0, none⟩ = some (.int .i64 st) := (HS.out.bel (HB3.out.tr HB5.out)).cell 0
  have t1 : V5.cell? ⟨v2.heap.size, 1, none⟩ = some (.int .i64 sp) := (HS.out.bel (HB3.out.tr HB5.out)).cell 1
  have t2 : V5.cell? ⟨v2.heap.size, 2, none⟩ = some (.slice A n c) := (HS.out.bel (HB3.out.tr HB5.out)).cell 2
  have tl := (HS.out.bel (HB3.out.tr HB5.out)).lt
  have y0 : V5.cell? ⟨v4.heap.size, 0, none⟩ = some (.int .i64 st) := HT.out.cell 0
  have y1 : V5.cell? ⟨v4.heap.size, 1, none⟩ = some (.int .i64 sp) := HT.out.cell 1
  have y2 : V5.cell? ⟨v4.heap.size, 2, none⟩ = some (.slice (some ⟨a, 0, none⟩) n n) := HT.out.cell 2
  have yl := HT.out.lt
  go_wp2_with fail
  (try rw [hV5])
  go_wp2_with fail
  clear hV5
  go_at_call 20
  refine (HSM.out _ (by repeat (first | exact Bel.rf | (with_reducible refine Bel.drwN ?_ _) | (with_reducible refine Bel.drw ?_) | (with_reducible refine Bel.al ?_ _)))).mono ?_
  rintro e v6 ⟨rfl, hb6⟩
  have HB6 : Hid (Bel v3 v6) := HB5.out.tr (by first | exact hb6 | exact (Bel.rf.drwN _).tr hb6)
  have HCN := Lib.hid (cks_sum L)
  have HPA : Hid (∀ j, j < N → 1 ≤ ct (cks L) j ∧ ct (cks L) j ≤ 64 ∧ Vx ((L.drop (fr (cks L) j)).take (ct (cks L) j)) ∧ ((L.drop (fr (cks L) j)).take (ct (cks L) j)).length = ct (cks L) j) := fun j hj => by
    have hjc : j < (cks L).length := by rw [← HN.out]; exact hj
    obtain ⟨g1, g2, g3, g4, g5⟩ := piece_at hjc
    have g6 := cks_le hjc
    have h9 := piece_vx (t := 0) (f := fr (cks L) j) (c := ct (cks L) j) HSV.out rfl g4 (fun i hi => by have := g5 i hi; rwa [getD_two (by omega)] at this) (by omega)
    rw [show fr (cks L) j + 64 * 0 = fr (cks L) j by omega, show min 64 (ct (cks L) j - 64 * 0) = ct (cks L) j by omega] at h9
    exact ⟨g3, g6, h9, by simp; omega⟩
  have HSS : Hid (∀ j, j ≤ N → sm (cks L) j ≤ cnt L) := fun j hj => by
    have h1 := sm_le (cks L) N j hj
    have h2 := sm_all (cks L)
    rw [← HN.out, cks_sum] at h2
    omega
  have HSN : Hid (sm (cks L) N = cnt L) := by
    have h2 := sm_all (cks L)
    rw [← HN.out, cks_sum] at h2
    exact h2
  have HC2 : Hid (cnt L ≤ 200) := by have := cnt_le L; have := HL.out; show cnt L ≤ 200; omega
  have HNB : Hid (N ≤ 200) := by
    have h1 : ∀ t, t ≤ N → t ≤ sm (cks L) t := fun t => by
      induction t with
      | zero => intro _; exact Nat.zero_le _
      | succ t ih =>
        intro h
        have h2 := ih (by omega)
        have h3 := (HPA.out t (by omega)).1
        show t + 1 ≤ sm (cks L) t + ct (cks L) t
        omega
    have h2 := h1 N (Nat.le_refl _)
    have := HSN.out
    have := HC2.out
    show N ≤ 200
    omega
  have Ni : (N : Int) ≤ 200 := by have := HNB.out; omega
  clear t0 t1 t2 tl y0 y1 y2 yl hb6
  go_wp2
  go_loopw [8, 46] (fun s8 s46 wr => ∃ (j : Nat) (V : World), V = wr ∧ j ≤ N ∧ s46 = .int .i64 (j : Int) ∧ s8 = .int .i64 (sm (cks L) j : Int) ∧ Bel v6 V) (fun s8 s46 _ => N - (intOf s46).toNat)
  case atStart => exact ⟨0, _, rfl, Nat.zero_le _, rfl, rfl, (by repeat (first | exact Bel.rf | (with_reducible refine Bel.drwN ?_ _) | (with_reducible refine Bel.drw ?_) | (with_reducible refine Bel.al ?_ _)))⟩
  case round =>
    obtain ⟨j, wr, hwr, hj, rfl, rfl, hb⟩ := hrel
    subst hwr
    have HB := Lib.hid hb
    rcases Nat.lt_or_ge j N with hlt | hge
    · obtain ⟨P, rfl, hpl, hpc⟩ := (HZ3.out.bel (HB6.out.tr hb)).2 (by omega)
      have p2 := (hpc j hlt).2
      have hjc : j < (cks L).length := by rw [← HN.out]; exact hlt
      obtain ⟨_, N1, q2, q3⟩ := (HSR.out.2 j hjc).bel (HB6.out.tr hb)
      obtain ⟨k1, k2, hv, hxl⟩ := HPA.out j hlt
      have hs1 := HSS.out (j + 1) hlt
      have HSE : Hid (sm (cks L) (j + 1) = sm (cks L) j + ct (cks L) j) := rfl
      have q2' : (seg ((L.drop (fr (cks L) j)).take (ct (cks L) j))).length = N1 := q2
      have q3' : wr.ownsRow 0 5 1 (us.getD j (0, undef)).2 N1 (By.bys (seg ((L.drop (fr (cks L) j)).take (ct (cks L) j)))) := q3
      obtain ⟨x, hx⟩ : ∃ x, (L.drop (fr (cks L) j)).take (ct (cks L) j) = x := ⟨_, rfl⟩
      rw [hx] at hv hxl q2' q3'
      obtain ⟨U, hU⟩ : ∃ U, (us.getD j (0, undef)).2 = U := ⟨_, rfl⟩
      rw [hU] at p2 q3'
      have hN1 := (seg_len hv).1
      have hN2 := (seg_len hv).2.1
      rw [q2'] at hN1 hN2
      obtain ⟨h1, c1, rfl, hc1, hcm, _, hrd⟩ := own_rd q3' (seg_byte hv) q2' (by omega)
      rw [HSE.out] at hs1
      obtain ⟨k, hk⟩ : ∃ k, ct (cks L) j = k := ⟨_, rfl⟩
      obtain ⟨S, hS⟩ : ∃ S, sm (cks L) j = S := ⟨_, rfl⟩
      have HSE2 : Hid (sm (cks L) (j + 1) = S + k) := by rw [← hk, ← hS]; exact HSE.out
      rw [hk] at k1 k2 hxl hs1
      rw [hS] at hs1 ⊢
      have HSU : Hid (∀ W, Bel wr W → Calls Try.prog 13 #[.slice (some ⟨h1, 0, none⟩) N1 c1] W fun e w' => (∃ K m M s : Int, e = .returned (.tuple #[.agg #[.int .i64 K, .int .i64 (k : Int), .int .i64 m, .int .i64 M, .int .i64 s], .int .i64 0])) ∧ Bel W w') := fun W hW => by
        refine (sum_ok (some ⟨h1, 0, none⟩) c1 N1 x hv (by omega) hc1 hcm W (hrd.bel hW)).mono ?_
        rintro e w' ⟨rfl, hb⟩
        exact ⟨⟨(kd x : Int), mn x, mx x, x.sum, by rw [← hxl]; rfl⟩, hb⟩
      have Sb : S + k ≤ 200 := by have := HC2.out; omega
      have HSB2 := Lib.hid Sb
      have ji : (j : Int) < (N : Int) := Int.ofNat_lt.2 hlt
      have i1 : ¬ (k : Int) < 1 := by omega
      have i2 : ¬ (64 : Int) < (k : Int) := by omega
      have i3 : ¬ k < 1 := by omega
      have i4 : ¬ 64 < k := by omega
      have i5 : (S : Int) + (k : Int) ≤ 200 := by omega
      clear hb hpl hpc hjc q2 q3 q2' q3' k1 k2 hv hxl hs1 hx hU hN1 hN2 hc1 hcm hrd hk hS Sb HSE
      go_wp2_with fail
      go_at_call 13
      refine (HSU.out _ (by repeat (first | exact Bel.rf | (with_reducible refine Bel.drwN ?_ _) | (with_reducible refine Bel.drw ?_) | (with_reducible refine Bel.al ?_ _)))).mono ?_
      rintro e v7 ⟨⟨K, m, M, s, rfl⟩, hb7⟩
      have HB7 : Hid (Bel wr v7) := by first | exact hb7 | exact (Bel.rf.drwN _).tr hb7
      clear hb7
      go_wp2
      go_roundw
      case rel => exact ⟨j + 1, _, rfl, hlt, by go_num, by rw [HSE2.out]; go_num, HB.out.tr (HB7.out.tr (by repeat (first | exact Bel.rf | (with_reducible refine Bel.drwN ?_ _) | (with_reducible refine Bel.drw ?_) | (with_reducible refine Bel.al ?_ _))))⟩
      case measure => simp [intOf]; omega
    · obtain rfl : j = N := by omega
      have hsn := HSN.out
      have d0 : wr.cell? ⟨v2.heap.size, 0, none⟩ = some (.int .i64 st) := (HS.out.bel (HB3.out.tr (HB6.out.tr hb))).cell 0
      have d1 : wr.cell? ⟨v2.heap.size, 1, none⟩ = some (.int .i64 sp) := (HS.out.bel (HB3.out.tr (HB6.out.tr hb))).cell 1
      have d2 : wr.cell? ⟨v2.heap.size, 2, none⟩ = some (.slice A n c) := (HS.out.bel (HB3.out.tr (HB6.out.tr hb))).cell 2
      have dl := (HS.out.bel (HB3.out.tr (HB6.out.tr hb))).lt
      have HR9 : Hid (∀ W, Bel wr W → _) := fun W hW => HRS.out W (HB3.out.tr (HB6.out.tr (HB.out.tr hW)))
      rw [hsn]
      clear hb hsn
      go_wp2_with fail
      go_at_call 21
      refine (HR9.out _ (by repeat (first | exact Bel.rf | (with_reducible refine Bel.drwN ?_ _) | (with_reducible refine Bel.drw ?_) | (with_reducible refine Bel.al ?_ _)))).mono ?_
      rintro e v8 ⟨B, k8, b8, rfl, hk8, hb8⟩
      subst hk8
      have HB8 : Hid (Bel wr v8) := by first | exact hb8 | exact (Bel.rf.drwN _).tr hb8
      clear hb8 d0 d1 d2 dl
      go_wp2_with (go_at_call 8; refine (AW.out _).mono ?_; rintro e w9 ⟨rfl, hb9⟩)
      go_ret
      exact ⟨rfl, (HB0.out.tr (HB3.out.tr (HB6.out.tr (HB.out.tr (HB8.out.tr (by first | exact hb9 | exact (Bel.rf.drwN _).tr hb9)))))).bl⟩

set_option maxRecDepth 100000 in
theorem lifted (os : Os) (started : os.Started) (H : Type) (enc : TypeId × Value → H) :
    ReturnsInHanded {} Try.checked os 5 .any (Rows.segmentLosslessSpec.pre6 enc Try.prog Try.f5 Rows.segmentLosslessRow.domain false) (Rows.segmentLosslessSpec.post enc Try.prog Try.f5 false true false false) := by
  refine returnsInHanded_of_change (C := Try.checked) own started (by kernel_rfl) Try.func5
    (ChangeSpec.witness6 (enc := enc) (C := Try.checked) false ⟨#[], #[.slice none 0 0], []⟩ 8 (by kernel_rfl) (by kernel_rfl) (by kernel_rfl) (by kernel_rfl)) ?_
  intro W base args ds gs before hval0 hW hcnd _
  have hval : ∀ (j : Nat) t v, Try.f5.params[j]? = some t → args[j]? = some v → Value.okWide Try.prog W .any base t v := hval0
  have hW' := hW
  obtain ⟨p, q, hA0, hV, rfl, hfz, hnd⟩ := hW
  have hA : DataW.TrodAll enc Try.prog W 0 (fun _ => true) true Try.f5.params.toList args.toList ds p := hA0
  rw [Try.params5] at hA hval
  obtain ⟨v0, vs0, d0, ds0, p0, q0, hargs, rfl, rfl, h0, r0⟩ := trodAll_cons hA
  obtain ⟨rfl, rfl, rfl⟩ := trodAll_nil r0
  obtain rfl : args = #[v0] := by cases args; simp_all
  obtain ⟨rfl, rfl⟩ := trodVars_none hV
  obtain ⟨a0, len0, cap0, rfl⟩ := okWide_slice Try.underlying22 (hval 0 22 v0 rfl rfl)
  have k0 := h0
  have lt0 : ∀ x ∈ p0, x.block < W.heap.size := by obtain ⟨m, hm⟩ := k0; exact DataW.trod_lt m _ _ _ hm
  obtain ⟨z0, w0⟩ : ∃ zs, IsRow .i64 W a0 len0 cap0 zs := by
    obtain ⟨fuel, hf⟩ := h0
    rcases open_ints Try.underlying22 Try.underlying3 (by kernel_rfl) hf with ⟨hcs, _⟩ | ⟨x, l, c, zs, hcs, _, hl, hm, hz, _, hcell, hwz⟩
    · simp [Value.cells] at hcs
      obtain ⟨rfl, rfl, rfl⟩ := hcs
      exact ⟨[], .inl ⟨rfl, rfl, rfl, rfl⟩⟩
    · simp [Value.cells] at hcs
      obtain ⟨rfl, rfl, rfl⟩ := hcs
      exact ⟨zs, .inr ⟨_, rfl, hl, hm, by simpa using hz, hcell, hwz⟩⟩
  clear hA0 hval0
  refine (walk a0 len0 cap0 z0 W w0).mono fun e W' ⟨he, bel⟩ => ?_
  subst he
  exact ⟨_, rfl, _, _, _, [], _, [], hW', trodAll_mk1 (shut_bool Try.underlying4 _), (trodAll_cons_mk (Below.trod laidOut (by kernel_rfl) (of_decide_eq_true (by kernel_rfl)) k0 bel lt0) trodAll_mk0), rfl, bel.frame _, fun h => by cases h⟩

theorem over : Rows.segmentLosslessRow.holds Try.pinned (OpenSpec.ofChange Rows.segmentLosslessSpec) :=
  OpenClaim.holds_of_wide 5 Try.f5 rfl rfl rfl rfl rfl rfl rfl ⟨rfl, rfl, rfl, rfl, rfl⟩ rfl rfl rfl rfl rfl (by kernel_rfl) Try.func5 (by kernel_rfl)
    (of_decide_eq_true (by kernel_rfl)) (by unfold Func.isWrapper; first | (rw [if_pos (by decide +kernel)]; kernel_rfl) | (rw [if_neg (by decide +kernel)]; exact ⟨rfl, rfl⟩))
    (fun os started H enc _ => lifted os started H enc)

theorem proved : Rows.SegmentLosslessSaid := over
end Go.Proofs.Ytaplbkfmedofcaa.segmentLossless
