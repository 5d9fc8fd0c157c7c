/- That the law SeriesStarts returns true for every input that can be read, and leaves its arguments as they were; no further condition. -/
import Derived.Test.YthpmgadmefhfpaaRows
import Derived.WalkKit
import Derived.ProofKit
import Derived.OpenShut
import Derived.Test.YthpmgadmefhfpaaWords
import Derived.Test.YthpmgadmefhfpaaSrcNew0
import Derived.Test.YthpmgadmefhfpaaSer8
import Derived.ShutString
import Derived.ChangeOld
import Derived.Below
namespace Go.Proofs.Ythpmgadmefhfpaa.seriesStarts
open Go.ChangeShapes Go.WideShapes Go.ChangeAt Go.RowKit Wo
open Go.ChangeMaps (open_string shut_string)
set_option linter.unusedVariables false

theorem own : ownKnob Try.prog.godebug = none := by kernel_rfl
theorem laidOut : laidOutB Try.prog = true := by kernel_rfl

/-- WHAT THE WALK IS TOLD OF A SLICE OF INTEGERS THAT CAME IN: it is nil; or it leads to a row of 'cap' cells, the numbers 'zs' (the first 'len' are its elements, the rest its spare room), each fitting its kind. -/
def IsRow (k : IntKind) (w : World) (a : Option Addr) (len cap : Nat) (zs : List Int) : Prop :=
  (a = none ∧ len = 0 ∧ cap = 0 ∧ zs = []) ∨
  ∃ x, a = some x ∧ len ≤ cap ∧ cap ≤ maxLen ∧ zs.length = cap ∧ (∀ i, i < zs.length → w.cell? (x.add i) = some (.int k (zs.getD i 0))) ∧ ∀ n ∈ zs, (Lit.int k n).wf = true

open Go.Proofs.Ythpmgadmefhfpaa.Se Go.Proofs.Ythpmgadmefhfpaa.Wi Go.Proofs.Ythpmgadmefhfpaa.Wo Go.Proofs.Ythpmgadmefhfpaa.Sr in
set_option maxHeartbeats 4000000 in
set_option maxRecDepth 100000 in
theorem walk (a0 : Option Addr) (len0 cap0 : Nat) (z0 : List Int) (a1 : Int) (w : World) (w0 : IsRow .i64 w a0 len0 cap0 z0) (w1 : (Lit.int .u8 a1).wf = true) :
    Calls Try.prog 4 #[.slice a0 len0 cap0, .int .u8 a1] w fun e w' => e = .returned (.bool true) ∧ Below w.heap.size w w' := by
  obtain ⟨i1, i2⟩ := bounds_u8 w1
  clear w1
  obtain ⟨x, rfl⟩ := Int.eq_ofNat_of_zero_le i1
  obtain ⟨R, hR⟩ : ∃ R : Nat, x % 9 = R := ⟨_, rfl⟩
  have hR1 : (x : Int).tmod 9 = (R : Int) := by rw [Int.tmod_eq_emod_of_nonneg (by omega)]; omega
  obtain ⟨k, hK⟩ : ∃ K : Nat, 1 + R = K := ⟨_, rfl⟩
  have hK1 : (1 : Int) + (R : Int) = (k : Int) := by omega
  have k1 : 1 ≤ k := by omega
  have k9 : k ≤ 9 := by omega
  have ki1 : 1 ≤ (k : Int) := by omega
  have ki9 : (k : Int) ≤ 9 := by omega
  clear hR hK
  have AW : Hid (∀ W, Calls Try.prog 11 #[] W fun e w' => e = .returned (.bool true) ∧ Bel W w') := awake_any
  go_enter Try.func4, Try.ntmps4
  go_wp2_with fail
  go_at_call 8
  refine (new_any a0 len0 cap0 z0 w w0).mono ?_
  rintro e v1 ⟨g, rfl, hg, ho1, hb1⟩
  have HO1 := Lib.hid ho1
  have HB1 := Lib.hid hb1
  clear ho1 hb1 w0
  go_wp2_with fail
  go_at_call 9
  refine (series_any g 40 (by decide) _ HO1.out).mono ?_
  rintro e v2 ⟨st, sp, A, n, c, L, rfl, st0, st1, sp0, sp1, n40, hsv, hvs, _, _, hc⟩
  have HB2 : Hid (Bel w v2) := Bel.ch HB1.out hc hg
  have HSB : Hid (Sb st sp n) := ⟨st0, by omega, sp0, sp1, by omega⟩
  have HSV := Lib.hid hsv
  have HVS := Lib.hid hvs
  have HL := Lib.hid hvs.1.1
  have HS := Lib.hid (Bk.nw v2 24 #[.int .i64 st, .int .i64 sp, .slice A n c])
  have HB0 : Hid (Bel w (v2.alloc (.cells #[.int .i64 st, .int .i64 sp, .slice A n c] 24))) := HB2.out.al _
  have HV0 : Hid (Vs (v2.alloc (.cells #[.int .i64 st, .int .i64 sp, .slice A n c] 24)) A n c L) := hvs.bel (Bel.rf.al _)
  obtain ⟨V0, hV0⟩ : ∃ V0, v2.alloc (.cells #[.int .i64 st, .int .i64 sp, .slice A n c] 24) = V0 := ⟨_, rfl⟩
  rw [hV0] at HS HB0 HV0
  have ni : (n : Int) ≤ 40 := by omega
  clear hsv hvs hc
  have s0 : V0.cell? ⟨v2.heap.size, 0, none⟩ = some (.int .i64 st) := HS.out.cell 0
  have s1 : V0.cell? ⟨v2.heap.size, 1, none⟩ = some (.int .i64 sp) := HS.out.cell 1
  have s2 : V0.cell? ⟨v2.heap.size, 2, none⟩ = some (.slice A n c) := HS.out.cell 2
  have sl := HS.out.lt
  go_wp2_with fail
  (try rw [hV0])
  go_at_call 12
  refine (starts_c st sp A n c k L HSB.out HSV.out k1 (by omega) _ HV0.out.1).mono ?_
  rintro e v3 ⟨A2, k2, c2, rfl, hk2, hz2, hb3⟩
  have HK2 := Lib.hid hk2
  have HZ2 := Lib.hid hz2
  have HB3 := Lib.hid hb3
  have HK2B : Hid (k2 ≤ 41) := by have h1 := sts_small L k k1; have h2 := HL.out; show k2 ≤ 41; omega
  clear hk2 hz2 hb3 s0 s1 s2 sl
  go_wp2
  go_loopw [8] (fun s8 wr => ∃ (t : Nat) (V : World), V = wr ∧ t ≤ n + 1 ∧ s8 = .int .i64 (t : Int) ∧ Bel v3 wr) (fun s8 _ => n + 1 - (intOf s8).toNat)
  case atStart => exact ⟨0, _, rfl, by omega, rfl, Bel.rf⟩
  case round =>
    obtain ⟨t, wr, hwr, ht, rfl, hb⟩ := hrel
    subst hwr
    have HB := Lib.hid hb
    have S := (HS.out.bel HB3.out).bel hb
    have d0 : wr.cell? ⟨v2.heap.size, 0, none⟩ = some (.int .i64 st) := S.cell 0
    have d1 : wr.cell? ⟨v2.heap.size, 1, none⟩ = some (.int .i64 sp) := S.cell 1
    have d2 : wr.cell? ⟨v2.heap.size, 2, none⟩ = some (.slice A n c) := S.cell 2
    have dl := S.lt
    have HS1 := Lib.hid S
    have HVR : Hid (Vs wr A n c L) := (HV0.out.bel HB3.out).bel hb
    have HZR : Hid (Zi wr A2 k2 (stz L k)) := HZ2.out.bel hb
    clear hb S
    rcases Nat.lt_or_ge n t with hlt | hge
    · have hni : ¬ t ≤ n := by omega
      have hnd : decide (t ≤ n) = false := decide_eq_false hni
      clear d0 d1 dl
      go_wp2
      clear d2 hni hnd hlt ht
      go_loopw [60] (fun s60 wr => ∃ (t : Nat) (V : World), V = wr ∧ t ≤ k2 ∧ s60 = .int .i64 (t : Int) ∧ Bel v3 wr) (fun s60 _ => k2 - (intOf s60).toNat)
      case atStart => exact ⟨0, _, rfl, by omega, rfl, HB.out⟩
      case round =>
        clear HB HS1 HVR HZR
        obtain ⟨u, wr, hwr, hu, rfl, hb⟩ := hrel
        subst hwr
        have HB := Lib.hid hb
        have kb := HK2B.out
        rcases Nat.lt_or_ge u k2 with hlt | hge
        · obtain ⟨ad, rfl, hab, hac⟩ := (HZ2.out.bel hb).2 (by omega)
          have ui : (u : Int) < (k2 : Int) := by omega
          rcases Nat.eq_zero_or_pos u with h0 | h0
          · have n0 : ¬ 0 < u := by omega
            have n1 : decide (0 < u) = false := decide_eq_false n0
            have n2 : ¬ (u : Int) > 0 := by omega
            clear hb hab hac h0
            go_wp2
            go_quiet (fail)
            go_wp2
            go_roundw
            case rel => exact ⟨u + 1, _, rfl, by omega, by go_num, by first | exact HB.out | exact HB.out.drw | exact HB.out.drwN _⟩
            case measure => simp [intOf]; omega
          · have u0 : (u : Int) > 0 := by omega
            have c1 := hac u hlt
            obtain ⟨p, hp⟩ : ∃ p, u - 1 = p := ⟨_, rfl⟩
            have hpi : (u : Int) - 1 = (p : Int) := by omega
            have c2' := hac p (by omega)
            have hlt2 := sts_lt (V := L) (m := k) k1 (i := p) (by rw [← HK2.out]; omega)
            rw [show p + 1 = u by omega] at hlt2
            rw [stz_at (by rw [← HK2.out]; omega)] at c1 c2'
            obtain ⟨a, ha⟩ : ∃ a, (sts L k).getD p 0 = a := ⟨_, rfl⟩
            obtain ⟨b, hbq⟩ : ∃ a, (sts L k).getD u 0 = a := ⟨_, rfl⟩
            rw [ha] at c2' hlt2
            rw [hbq] at c1 hlt2
            have hab1 : ¬ b ≤ a := by omega
            have hab2 : decide (b ≤ a) = false := decide_eq_false hab1
            have pi : (p : Int) < (k2 : Int) := by omega
            have wp1 : IntKind.i64.wrap ((u : Int) - 1) = (p : Int) := by rw [hpi]; exact IntWalk.i64_in _ (by omega)
            have wp2 : IntKind.i64.wrap (p : Int) = (p : Int) := IntWalk.i64_in _ (by omega)
            have pk : p < k2 := by omega
            clear hb hab hac ha hbq hp hlt2
            go_wp2
            go_quiet (fail)
            go_wp2
            go_roundw
            case rel => exact ⟨u + 1, _, rfl, by omega, by go_num, by first | exact HB.out | exact HB.out.drw | exact HB.out.drwN _⟩
            case measure => simp [intOf]; omega
        · obtain rfl : u = k2 := by omega
          clear hb
          go_wp2_with (go_at_call 11; refine (AW.out _).mono ?_; rintro e v9 ⟨rfl, hb9⟩)
          go_ret
          exact ⟨rfl, (HB0.out.tr (HB3.out.tr (HB.out.tr hb9))).bl⟩
    · have hti : t ≤ n := hge
      have htd : decide (t ≤ n) = true := decide_eq_true hti
      have WN : Hid (∀ W, Vs W A n c L → _) := fun W hW => window_any st sp A n c L HSB.out HSV.out t k k1 (by omega) (by omega) W hW
      have hgd : good L k t = true ↔ ∃ j, j < k2 ∧ (stz L k).getD j 0 = (t : Int) := by
        rw [← sts_mem k1]
        constructor
        · intro hm
          obtain ⟨j, hj, e⟩ := List.getElem_of_mem hm
          refine ⟨j, by rw [HK2.out]; exact hj, ?_⟩
          rw [stz_at hj, List.getD_eq_getElem?_getD, List.getElem?_eq_getElem hj, e]; rfl
        · rintro ⟨j, hj, e⟩
          rw [HK2.out] at hj
          rw [stz_at hj, List.getD_eq_getElem?_getD, List.getElem?_eq_getElem hj] at e
          have e2 : (sts L k)[j] = t := by simp at e; omega
          rw [← e2]
          exact List.getElem_mem hj
      have IN : Hid (∀ W, Zi W A2 k2 (stz L k) → _) := fun W hW => in_any A2 c2 k2 (stz L k) (t : Int) (good L k t) (by have := HK2B.out; omega) hgd W hW
      have HLE := HL.out
      cases hgq : good L k t
      · rw [hgq] at IN
        have hw : we L t k ≠ 0 := by
          unfold we
          rw [hgq, if_neg (by simp)]
          split <;> omega
        obtain ⟨E, hE⟩ : ∃ E, we L t k = E := ⟨_, rfl⟩
        have hwe : ∀ W, Vs W A n c L → Calls Try.prog 13 #[.agg #[.int .i64 st, .int .i64 sp, .slice A n c], .int .i64 (t : Int), .int .i64 (k : Int)] W fun e w' => ∃ (A4 : Option Addr) (k4 c4 : Nat), e = .returned (.tuple #[.slice A4 k4 c4, .int .i64 E]) ∧ Bel W w' :=
          fun W hW => (WN.out W hW).mono fun e w' ⟨A4, k4, c4, he, _, _, hb⟩ => ⟨A4, k4, c4, by rw [he, hE], hb⟩
        have HWE := Lib.hid hwe
        have E0 : E ≠ 0 := by rw [← hE]; exact hw
        have E1 : (E == 0) = false := by simpa using E0
        clear hgd hgq hw hE hwe HLE WN hge ht
        go_wp2_with fail
        go_at_call 13
        refine (HWE.out _ HVR.out).mono ?_
        rintro e w4 ⟨A4, k4, c4, rfl, hb4⟩
        have HB4 := Lib.hid (HB.out.tr hb4)
        have HZ4 := Lib.hid (HZR.out.bel hb4)
        clear hb4 d0 d1 d2 dl
        go_wp2_with fail
        go_at_call 14
        refine (IN.out _ HZ4.out).mono ?_
        rintro e w5 ⟨rfl, hb5⟩
        have HB5 := Lib.hid (HB4.out.tr hb5)
        clear hb5
        go_wp2
        go_roundw
        case rel => exact ⟨t + 1, _, rfl, by omega, by go_num, by first | exact HB5.out | exact HB5.out.drw | exact HB5.out.drwN _⟩
        case measure => simp [intOf]; omega
      · rw [hgq] at IN
        have hin := (good_iff.1 hgq).1
        have hw : we L t k = 0 := by unfold we; rw [hgq]; rfl
        have hzw : wz L t k = (L.drop t).take k := by unfold wz; rw [hgq]; rfl
        obtain ⟨G, hG⟩ : ∃ G, A = some ⟨G, 0, none⟩ := by
          rcases HVR.out.2.2 with ⟨h1, h2⟩ | h
          · exfalso; have := HVR.out.2.1; omega
          · exact h
        subst hG
        have hnc := HVR.out.2.1
        have q1 : ¬ c = t := by omega
        have q2 : (t : Int) ≤ (c : Int) := by omega
        have q3 : (t : Int) + (k : Int) ≤ (c : Int) := by omega
        have q4 : ((t : Int) + (k : Int)).toNat - t = k := by omega
        have q5 : (t : Int) ≤ (t : Int) + (k : Int) := by omega
        have HWE : Hid (∀ W, Vs W (some ⟨G, 0, none⟩) n c L → Calls Try.prog 13 #[.agg #[.int .i64 st, .int .i64 sp, .slice (some ⟨G, 0, none⟩) n c], .int .i64 (t : Int), .int .i64 (k : Int)] W fun e w' => ∃ (A4 : Option Addr) (c4 : Nat), e = .returned (.tuple #[.slice A4 k c4, .int .i64 0]) ∧ Zi w' A4 k ((L.drop t).take k) ∧ Bel W w') :=
          fun W hW => (WN.out W hW).mono fun e w' ⟨A4, k4, c4, he, hk4, hz4, hb⟩ => by
            rw [hzw] at hk4 hz4
            have hk5 : k4 = k := by rw [hk4]; exact part_len (by omega)
            subst hk5
            exact ⟨A4, c4, by rw [he, hw], hz4, hb⟩
        have HIN : Hid (t + k ≤ n) := by show _ ≤ _; omega
        clear hgd hgq hw hzw HLE WN hge ht hin hnc
        go_wp2_with fail
        go_at_call 13
        refine (HWE.out _ HVR.out).mono ?_
        rintro e w4 ⟨A4, c4, rfl, hz4, hb4⟩
        have HB4 := Lib.hid (HB.out.tr hb4)
        have HZ4 := Lib.hid (HZR.out.bel hb4)
        have HW4 := Lib.hid hz4
        have HV4 := Lib.hid (HVR.out.bel hb4)
        have HS4 := Lib.hid (HS1.out.bel hb4)
        clear hb4 hz4 d0 d1 d2 dl
        go_wp2_with fail
        go_at_call 14
        refine (IN.out _ HZ4.out).mono ?_
        rintro e w5 ⟨rfl, hb5⟩
        have HB5 := Lib.hid (HB4.out.tr hb5)
        have HW5 := Lib.hid (HW4.out.bel hb5)
        have HP5 := Lib.hid (zi_cut (HV4.out.1.bel hb5) HIN.out)
        have d2 : w5.cell? ⟨v2.heap.size, 2, none⟩ = some (.slice (some ⟨G, 0, none⟩) n c) := (HS4.out.bel hb5).cell 2
        clear hb5
        go_wp2_with fail
        go_at_call 15
        refine (ints_same A4 _ c4 _ k ((L.drop t).take k) (by omega) _ HW5.out HP5.out).mono ?_
        rintro e w6 ⟨rfl, hb6⟩
        have HB6 := Lib.hid (HB5.out.tr hb6)
        clear hb6
        go_wp2
        go_roundw
        case rel => exact ⟨t + 1, _, rfl, by omega, by go_num, by first | exact HB6.out | exact HB6.out.drw | exact HB6.out.drwN _⟩
        case measure => simp [intOf]; omega

set_option maxRecDepth 100000 in
theorem lifted (os : Os) (started : os.Started) (H : Type) (enc : TypeId × Value → H) :
    ReturnsInHanded {} Try.checked os 4 .any (Rows.seriesStartsSpec.pre6 enc Try.prog Try.f4 Rows.seriesStartsRow.domain false) (Rows.seriesStartsSpec.post enc Try.prog Try.f4 false true false false) := by
  refine returnsInHanded_of_change (C := Try.checked) own started (by kernel_rfl) Try.func4
    (ChangeSpec.witness6 (enc := enc) (C := Try.checked) false ⟨#[], #[.slice none 0 0, .int .u8 0], []⟩ 8 (by kernel_rfl) (by kernel_rfl) (by kernel_rfl) (by kernel_rfl)) ?_
  intro W base args ds gs before hval0 hW hcnd _
  have hval : ∀ (j : Nat) t v, Try.f4.params[j]? = some t → args[j]? = some v → Value.okWide Try.prog W .any base t v := hval0
  have hW' := hW
  obtain ⟨p, q, hA0, hV, rfl, hfz, hnd⟩ := hW
  have hA : DataW.TrodAll enc Try.prog W 0 (fun _ => true) true Try.f4.params.toList args.toList ds p := hA0
  rw [Try.params4] at hA hval
  obtain ⟨v0, vs0, d0, ds0, p0, q0, hargs, rfl, rfl, h0, r0⟩ := trodAll_cons hA
  obtain ⟨v1, vs1, d1, ds1, p1, q1, rfl, rfl, rfl, h1, r1⟩ := trodAll_cons r0
  obtain ⟨rfl, rfl, rfl⟩ := trodAll_nil r1
  obtain rfl : args = #[v0, v1] := by cases args; simp_all
  obtain ⟨rfl, rfl⟩ := trodVars_none hV
  obtain ⟨a0, len0, cap0, rfl⟩ := okWide_slice Try.underlying22 (hval 0 22 v0 rfl rfl)
  have k0 := h0
  have lt0 : ∀ x ∈ p0, x.block < W.heap.size := by obtain ⟨m, hm⟩ := k0; exact DataW.trod_lt m _ _ _ hm
  obtain ⟨z0, w0⟩ : ∃ zs, IsRow .i64 W a0 len0 cap0 zs := by
    obtain ⟨fuel, hf⟩ := h0
    rcases open_ints Try.underlying22 Try.underlying3 (by kernel_rfl) hf with ⟨hcs, _⟩ | ⟨x, l, c, zs, hcs, _, hl, hm, hz, _, hcell, hwz⟩
    · simp [Value.cells] at hcs
      obtain ⟨rfl, rfl, rfl⟩ := hcs
      exact ⟨[], .inl ⟨rfl, rfl, rfl, rfl⟩⟩
    · simp [Value.cells] at hcs
      obtain ⟨rfl, rfl, rfl⟩ := hcs
      exact ⟨zs, .inr ⟨_, rfl, hl, hm, by simpa using hz, hcell, hwz⟩⟩
  obtain ⟨a1, rfl, rfl, rfl, w1⟩ := open_int Try.underlying5 (hval 1 5 v1 rfl rfl) h1
  clear hA0 hval0
  refine (walk a0 len0 cap0 z0 a1 W w0 w1).mono fun e W' ⟨he, bel⟩ => ?_
  subst he
  exact ⟨_, rfl, _, _, _, [], _, [], hW', trodAll_mk1 (shut_bool Try.underlying4 _), (trodAll_cons_mk (Below.trod laidOut (by kernel_rfl) (of_decide_eq_true (by kernel_rfl)) k0 bel lt0) (trodAll_cons_mk (shut_int Try.underlying5 w1) trodAll_mk0)), rfl, bel.frame _, fun h => by cases h⟩

theorem over : Rows.seriesStartsRow.holds Try.pinned (OpenSpec.ofChange Rows.seriesStartsSpec) :=
  OpenClaim.holds_of_wide 4 Try.f4 rfl rfl rfl rfl rfl rfl rfl ⟨rfl, rfl, rfl, rfl, rfl⟩ rfl rfl rfl rfl rfl (by kernel_rfl) Try.func4 (by kernel_rfl)
    (of_decide_eq_true (by kernel_rfl)) (by unfold Func.isWrapper; first | (rw [if_pos (by decide +kernel)]; kernel_rfl) | (rw [if_neg (by decide +kernel)]; exact ⟨rfl, rfl⟩))
    (fun os started H enc _ => lifted os started H enc)

theorem proved : Rows.SeriesStartsSaid := over
end Go.Proofs.Ythpmgadmefhfpaa.seriesStarts
