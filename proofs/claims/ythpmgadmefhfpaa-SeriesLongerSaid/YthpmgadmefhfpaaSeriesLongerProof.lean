/- That the law SeriesLonger returns true for every input that can be read, and leaves its arguments as they were; no further condition. -/
import Derived.Test.YthpmgadmefhfpaaRows
import Derived.WalkKit
import Derived.ProofKit
import Derived.OpenShut
import Derived.Test.YthpmgadmefhfpaaWords
import Derived.Test.YthpmgadmefhfpaaSrcNew0
import Derived.Test.YthpmgadmefhfpaaSerL
import Derived.ShutString
import Derived.ChangeOld
import Derived.Below
namespace Go.Proofs.Ythpmgadmefhfpaa.seriesLonger
open Go.ChangeShapes Go.WideShapes Go.ChangeAt Go.RowKit Wo
open Go.ChangeMaps (open_string shut_string)
set_option linter.unusedVariables false

theorem own : ownKnob Try.prog.godebug = none := by kernel_rfl
theorem laidOut : laidOutB Try.prog = true := by kernel_rfl

/-- WHAT THE WALK IS TOLD OF A SLICE OF INTEGERS THAT CAME IN: it is nil; or it leads to a row of 'cap' cells, the numbers 'zs' (the first 'len' are its elements, the rest its spare room), each fitting its kind. -/
def IsRow (k : IntKind) (w : World) (a : Option Addr) (len cap : Nat) (zs : List Int) : Prop :=
  (a = none ∧ len = 0 ∧ cap = 0 ∧ zs = []) ∨
  ∃ x, a = some x ∧ len ≤ cap ∧ cap ≤ maxLen ∧ zs.length = cap ∧ (∀ i, i < zs.length → w.cell? (x.add i) = some (.int k (zs.getD i 0))) ∧ ∀ n ∈ zs, (Lit.int k n).wf = true

open Go.Proofs.Ythpmgadmefhfpaa.Se Go.Proofs.Ythpmgadmefhfpaa.Wi Go.Proofs.Ythpmgadmefhfpaa.Wo Go.Proofs.Ythpmgadmefhfpaa.Sr in
set_option maxHeartbeats 4000000 in
set_option maxRecDepth 100000 in
theorem walk (a0 : Option Addr) (len0 cap0 : Nat) (z0 : List Int) (a1 : Int) (a2 : Int) (a3 : Int) (w : World) (w0 : IsRow .i64 w a0 len0 cap0 z0) (w1 : (Lit.int .u8 a1).wf = true) (w2 : (Lit.int .u8 a2).wf = true) (w3 : (Lit.int .u8 a3).wf = true) :
    Calls Try.prog 7 #[.slice a0 len0 cap0, .int .u8 a1, .int .u8 a2, .int .u8 a3] w fun e w' => e = .returned (.bool true) ∧ Below w.heap.size w w' := by
  obtain ⟨i1a, i1b⟩ := bounds_u8 w1
  clear w1
  obtain ⟨i2a, i2b⟩ := bounds_u8 w2
  clear w2
  obtain ⟨i3a, i3b⟩ := bounds_u8 w3
  clear w3
  obtain ⟨x1, rfl⟩ := Int.eq_ofNat_of_zero_le i1a
  obtain ⟨R1, hR1⟩ : ∃ R : Nat, x1 % 8 = R := ⟨_, rfl⟩
  have hM1 : (x1 : Int).tmod 8 = (R1 : Int) := by rw [Int.tmod_eq_emod_of_nonneg (by omega)]; omega
  have hb1 : R1 < 8 := by rw [← hR1]; exact Nat.mod_lt _ (by decide)
  obtain ⟨x3, rfl⟩ := Int.eq_ofNat_of_zero_le i3a
  obtain ⟨R3, hR3⟩ : ∃ R : Nat, x3 % 40 = R := ⟨_, rfl⟩
  have hM3 : (x3 : Int).tmod 40 = (R3 : Int) := by rw [Int.tmod_eq_emod_of_nonneg (by omega)]; omega
  have hb3 : R3 < 40 := by rw [← hR3]; exact Nat.mod_lt _ (by decide)
  obtain ⟨k, hK⟩ : ∃ K : Nat, 1 + R1 = K := ⟨_, rfl⟩
  have hK1 : (1 : Int) + (R1 : Int) = (k : Int) := by omega
  have k1 : 1 ≤ k := by omega
  have k8 : k ≤ 8 := by omega
  have ki1 : 1 ≤ (k : Int) := by omega
  have ki8 : (k : Int) ≤ 8 := by omega
  have wk1 : IntKind.i64.wrap ((k : Int) + 1) = (k : Int) + 1 := IntWalk.i64_in _ (by omega)
  have R3i : (R3 : Int) < 40 := by omega
  clear hR1 hR3 hK hb1 hb3
  have AW : Hid (∀ W, Calls Try.prog 11 #[] W fun e w' => e = .returned (.bool true) ∧ Bel W w') := awake_any
  go_enter Try.func7, Try.ntmps7
  go_wp2_with fail
  go_at_call 8
  refine (new_any a0 len0 cap0 z0 w w0).mono ?_
  rintro e v1 ⟨g, rfl, hg, ho1, hb1⟩
  have HO1 := Lib.hid ho1
  have HB1 := Lib.hid hb1
  clear ho1 hb1 w0
  go_wp2_with fail
  go_at_call 9
  refine (series_any g 40 (by decide) _ HO1.out).mono ?_
  rintro e v2 ⟨st, sp, A, n, c, L, rfl, st0, st1, sp0, sp1, n40, hsv, hvs, _, _, hc⟩
  have HB2 : Hid (Bel w v2) := Bel.ch HB1.out hc hg
  have HSB : Hid (Sb st sp n) := ⟨st0, by omega, sp0, sp1, by omega⟩
  have HSV := Lib.hid hsv
  have HVS := Lib.hid hvs
  have HL := Lib.hid hvs.1.1
  have HS := Lib.hid (Bk.nw v2 24 #[.int .i64 st, .int .i64 sp, .slice A n c])
  have HB0 : Hid (Bel w (v2.alloc (.cells #[.int .i64 st, .int .i64 sp, .slice A n c] 24))) := HB2.out.al _
  have HV0 : Hid (Vs (v2.alloc (.cells #[.int .i64 st, .int .i64 sp, .slice A n c] 24)) A n c L) := hvs.bel (Bel.rf.al _)
  obtain ⟨V0, hV0⟩ : ∃ V0, v2.alloc (.cells #[.int .i64 st, .int .i64 sp, .slice A n c] 24) = V0 := ⟨_, rfl⟩
  rw [hV0] at HS HB0 HV0
  have ni : (n : Int) ≤ 40 := by omega
  clear hsv hvs hc
  have s0 : V0.cell? ⟨v2.heap.size, 0, none⟩ = some (.int .i64 st) := HS.out.cell 0
  have s1 : V0.cell? ⟨v2.heap.size, 1, none⟩ = some (.int .i64 sp) := HS.out.cell 1
  have s2 : V0.cell? ⟨v2.heap.size, 2, none⟩ = some (.slice A n c) := HS.out.cell 2
  have sl := HS.out.lt
  have SK1 : Hid (∀ W, Bel V0 W → Calls Try.prog 12 #[.agg #[.int .i64 st, .int .i64 sp, .slice A n c], .int .i64 ((k : Int) + 1)] W (SomeStarts L (k + 1) W)) := fun W hW => by
    have := starts_c st sp A n c (k + 1) L HSB.out HSV.out (by omega) (by omega) W (HV0.out.1.bel hW)
    rwa [show ((k + 1 : Nat) : Int) = (k : Int) + 1 by omega] at this
  have SK2 : Hid (∀ W, Bel V0 W → _) := fun W hW => starts_c st sp A n c k L HSB.out HSV.out k1 (by omega) W (HV0.out.1.bel hW)
  go_wp2_with fail
  (try rw [hV0])
  go_region_held3 (fun w' => w'.cell? ⟨v2.heap.size, 0, none⟩ = some (.int .i64 st) ∧ w'.cell? ⟨v2.heap.size, 1, none⟩ = some (.int .i64 sp) ∧ w'.cell? ⟨v2.heap.size, 2, none⟩ = some (.slice A n c))
    ((refine ⟨?_, ?_, ?_⟩) <;> (repeat (first | exact s0 | exact s1 | exact s2 | (with_reducible refine kp_al ?_ _) | (with_reducible refine kp_drwN ?_ _) | (with_reducible refine kp_drw ?_) | (refine Bel.kp (by assumption) ?_))))
    (first
      | (go_at_call 12; first
        | ((with_reducible refine (SK1.out _ (by repeat (first | exact Bel.rf | (with_reducible refine Bel.drwN ?_ _) | (with_reducible refine Bel.drw ?_) | (with_reducible refine Bel.al ?_ _) | (refine Bel.tr ?_ (by assumption))))).mono ?_); rintro e v3 ⟨A3, k3, c3, rfl, hk3, hz3, hb3⟩; have HT3 := Lib.hid (And.intro hk3 hz3); clear hk3 hz3)
        | ((with_reducible refine (SK2.out _ (by repeat (first | exact Bel.rf | (with_reducible refine Bel.drwN ?_ _) | (with_reducible refine Bel.drw ?_) | (with_reducible refine Bel.al ?_ _) | (refine Bel.tr ?_ (by assumption))))).mono ?_); rintro e v4 ⟨A4, k4, c4, rfl, hk4, hz4, hb4⟩; have HT4 := Lib.hid (And.intro hk4 hz4); clear hk4 hz4; have HB34 : Hid (Bel v3 v4) := (by repeat (first | exact Bel.rf | (with_reducible refine Bel.drwN ?_ _) | (with_reducible refine Bel.drw ?_) | (with_reducible refine Bel.al ?_ _) | (refine Bel.tr ?_ (by assumption)))); have HB04 : Hid (Bel V0 v4) := (by repeat (first | exact Bel.rf | (with_reducible refine Bel.drwN ?_ _) | (with_reducible refine Bel.drw ?_) | (with_reducible refine Bel.al ?_ _) | (refine Bel.tr ?_ (by assumption)))))))
  clear s0 s1 s2 sl hb3 hb4
  have HLL := HL.out
  have HLN : Hid (k3 ≤ 41 ∧ k4 ≤ 41 ∧ k3 ≤ k4) := by
    have h1 := sts_small L k k1
    have h2 := sts_small L (k + 1) (by omega)
    have h3 := sts_len L k k1
    rw [← HT4.out.1] at h1 h3
    rw [← HT3.out.1] at h2 h3
    exact ⟨by omega, by omega, h3⟩
  have IN : Hid (∀ W, Zi W A3 k3 (stz L (k + 1)) → Zi W A4 k4 (stz L k) → _) := fun W h h' => inside_ok A3 A4 c3 c4 k3 k4 (stz L (k + 1)) (stz L k) (by have := HLN.out; omega) (by have := HLN.out; omega) (fun i hi => by rw [HT4.out.1]; exact stz_sub k1 (by rw [← HT3.out.1]; exact hi)) W h h'
  have kk1 : ¬ k4 < k3 := by have := HLN.out; omega
  have kk2 : decide (k4 < k3) = false := decide_eq_false kk1
  have m0 := Int.emod_nonneg a2 (b := (n : Int) + 1) (by omega)
  have m1 := Int.emod_lt_of_pos a2 (b := (n : Int) + 1) (by omega)
  obtain ⟨i, hi⟩ := Int.eq_ofNat_of_zero_le m0
  have hin : i ≤ n := by omega
  have MD : Hid (∀ W, Calls Try.prog 16 #[.int .i64 a2, .int .i64 ((n : Int) + 1)] W fun e w' => e = .returned (.int .i64 (i : Int)) ∧ W = w') := fun W => by rw [← hi]; exact mod_any a2 _ (by omega) (by omega) (by omega) (by omega) W
  clear m0 m1 hi
  obtain ⟨r, hr⟩ : ∃ r, n - i = r := ⟨_, rfl⟩
  have hri : (n : Int) - (i : Int) = (r : Int) := by omega
  obtain ⟨p, hp⟩ : ∃ p, st + (i : Int) * sp = p := ⟨_, rfl⟩
  have qb := sb_mul sp0 sp1 (show i ≤ 3000 by omega)
  rw [Int.mul_comm] at qb
  obtain ⟨q0, q1⟩ := qb
  have HZE : Hid ((L.drop i).take r = L.drop i) := by show _ = _; rw [List.take_of_length_le]; rw [List.length_drop]; omega
  have HWD := Lib.hid (win_drop (L := L) (i := i) (j := R3) (k := k) (by omega))
  have CU : Hid (∀ W, Vs W A n c L → Calls Try.prog 17 #[.agg #[.int .i64 st, .int .i64 sp, .slice A n c], .int .i64 (i : Int), .int .i64 (r : Int)] W (SomeCut p sp r (L.drop i) W)) := fun W hW => by
    have := cut_any st sp A n c L HSB.out HSV.out i r (by omega) p hp W hW
    rwa [HZE.out] at this
  have HSB2 : Hid (Sb p sp r) := ⟨by omega, by omega, sp0, sp1, by omega⟩
  have HSV2 : Hid (Sv (L.drop i)) := HSV.out.drop i
  obtain ⟨E, hE⟩ : ∃ E, we L (i + R3) k = E := ⟨_, rfl⟩
  obtain ⟨Z, hZ⟩ : ∃ Z, wz L (i + R3) k = Z := ⟨_, rfl⟩
  have HZL : Hid (Z.length ≤ 8) := by have := wz_len L (i + R3) k; rw [hZ] at this; show _ ≤ _; omega
  obtain ⟨z, hz⟩ : ∃ z, Z.length = z := ⟨_, rfl⟩
  have zb := HZL.out
  rw [hz] at zb
  have W1 : Hid (∀ W A6 c6, Vs W A6 r c6 (L.drop i) → Calls Try.prog 13 #[.agg #[.int .i64 p, .int .i64 sp, .slice A6 r c6], .int .i64 (R3 : Int), .int .i64 (k : Int)] W fun e w' => ∃ (A7 : Option Addr) (c7 : Nat), e = .returned (.tuple #[.slice A7 z c7, .int .i64 E]) ∧ Zi w' A7 z Z ∧ Bel W w') := fun W A6 c6 hW => by
    refine (window_any p sp A6 r c6 _ HSB2.out HSV2.out R3 k k1 (by omega) (by omega) W hW).mono ?_
    intro e w' h
    have h := some_w h
    rw [HWD.out.1, HWD.out.2, hE, hZ] at h
    obtain ⟨A7, c7, h1, h2, h3⟩ := h
    rw [hz] at h1 h2
    exact ⟨A7, c7, h1, h2, h3⟩
  obtain ⟨u, hu⟩ : ∃ u, i + R3 = u := ⟨_, rfl⟩
  have hui : (i : Int) + (R3 : Int) = (u : Int) := by omega
  have W2 : Hid (∀ W, Vs W A n c L → Calls Try.prog 13 #[.agg #[.int .i64 st, .int .i64 sp, .slice A n c], .int .i64 (u : Int), .int .i64 (k : Int)] W fun e w' => ∃ (A7 : Option Addr) (c7 : Nat), e = .returned (.tuple #[.slice A7 z c7, .int .i64 E]) ∧ Zi w' A7 z Z ∧ Bel W w') := fun W hW => by
    refine (window_any st sp A n c _ HSB.out HSV.out u k k1 (by omega) (by omega) W hW).mono ?_
    intro e w' h
    have h := some_w h
    rw [← hu, hE, hZ] at h
    obtain ⟨A7, c7, h1, h2, h3⟩ := h
    rw [hz] at h1 h2
    exact ⟨A7, c7, h1, h2, h3⟩
  obtain ⟨q, hq⟩ : ∃ q, (i : Int) * sp = q := ⟨_, rfl⟩
  rw [hq] at hp q0 q1
  have np := ne_self p
  have wq : IntKind.i64.wrap q = q := IntWalk.i64_in _ (by omega)
  have ub : (u : Int) ≤ 80 := by omega
  have rb : (r : Int) ≤ 40 := by omega
  have ib : (i : Int) ≤ 40 := by omega
  clear hE hZ hz hu hr hin HLL
  have HS4 := Lib.hid (HS.out.bel HB04.out)
  have s2 : v4.cell? ⟨v2.heap.size, 2, none⟩ = some (.slice A n c) := HS4.out.cell 2
  go_wp2_with fail
  go_at_call 20
  refine (IN.out _ (by first | exact HT3.out.2.bel HB34.out | exact HT3.out.2.bel HB34.out.drw | exact HT3.out.2.bel (HB34.out.drwN _)) (by first | exact HT4.out.2 | exact HT4.out.2.bel Bel.rf.drw | exact HT4.out.2.bel (Bel.rf.drwN _))).mono ?_
  rintro e v5 ⟨rfl, hb5⟩
  have HB45 : Hid (Bel v4 v5) := (by first | exact hb5 | exact Bel.rf.drw.tr hb5 | exact (Bel.rf.drwN _).tr hb5)
  clear hb5 s2
  have HS5 := Lib.hid (HS4.out.bel HB45.out)
  have HB05 := Lib.hid (HB04.out.tr HB45.out)
  have s0 : v5.cell? ⟨v2.heap.size, 0, none⟩ = some (.int .i64 st) := HS5.out.cell 0
  have s1 : v5.cell? ⟨v2.heap.size, 1, none⟩ = some (.int .i64 sp) := HS5.out.cell 1
  have s2 : v5.cell? ⟨v2.heap.size, 2, none⟩ = some (.slice A n c) := HS5.out.cell 2
  have sl := HS5.out.lt
  go_wp2_with fail
  go_at_call 16
  refine (MD.out _).mono ?_
  rintro e v5' ⟨rfl, rfl⟩
  go_wp2_with fail
  go_at_call 17
  refine (CU.out _ (by first | exact HV0.out.bel HB05.out | exact HV0.out.bel HB05.out.drw | exact HV0.out.bel (HB05.out.drwN _))).mono ?_
  rintro e v6 ⟨A6, c6, rfl, hv6, hb6⟩
  have HB56 : Hid (Bel v5 v6) := (by first | exact hb6 | exact Bel.rf.drw.tr hb6 | exact (Bel.rf.drwN _).tr hb6)
  have HV6 := Lib.hid hv6
  have HS6 := Lib.hid ((HS5.out.bel HB56.out).al (.cells #[.int .i64 p, .int .i64 sp, .slice A6 r c6] 24))
  have HC6 := Lib.hid (Bk.nw v6 24 #[.int .i64 p, .int .i64 sp, .slice A6 r c6])
  have HB06 : Hid (Bel V0 (v6.alloc (.cells #[.int .i64 p, .int .i64 sp, .slice A6 r c6] 24))) := (HB05.out.tr HB56.out).al _
  have HW6 : Hid (Vs (v6.alloc (.cells #[.int .i64 p, .int .i64 sp, .slice A6 r c6] 24)) A6 r c6 (L.drop i)) := hv6.bel (Bel.rf.al _)
  obtain ⟨V6, hV6⟩ : ∃ V, v6.alloc (.cells #[.int .i64 p, .int .i64 sp, .slice A6 r c6] 24) = V := ⟨_, rfl⟩
  rw [hV6] at HS6 HC6 HB06 HW6
  clear hb6 hv6 s0 s1 s2 sl
  have s0 : V6.cell? ⟨v2.heap.size, 0, none⟩ = some (.int .i64 st) := HS6.out.cell 0
  have s1 : V6.cell? ⟨v2.heap.size, 1, none⟩ = some (.int .i64 sp) := HS6.out.cell 1
  have s2 : V6.cell? ⟨v2.heap.size, 2, none⟩ = some (.slice A n c) := HS6.out.cell 2
  have sl := HS6.out.lt
  have t0 : V6.cell? ⟨v6.heap.size, 0, none⟩ = some (.int .i64 p) := HC6.out.cell 0
  have t1 : V6.cell? ⟨v6.heap.size, 1, none⟩ = some (.int .i64 sp) := HC6.out.cell 1
  have t2 : V6.cell? ⟨v6.heap.size, 2, none⟩ = some (.slice A6 r c6) := HC6.out.cell 2
  have tl := HC6.out.lt
  go_wp2_with fail
  (try rw [hV6])
  go_wp2_with fail
  go_at_call 13
  refine (W1.out _ _ _ (by first | exact HW6.out | exact HW6.out.bel Bel.rf.drw | exact HW6.out.bel (Bel.rf.drwN _))).mono ?_
  rintro e v7 ⟨A7, c7, rfl, hz7, hb7⟩
  have HB67 : Hid (Bel V6 v7) := (by first | exact hb7 | exact Bel.rf.drw.tr hb7 | exact (Bel.rf.drwN _).tr hb7)
  have HZ7 := Lib.hid hz7
  have HS7 := Lib.hid (HS6.out.bel HB67.out)
  have HB07 := Lib.hid (HB06.out.tr HB67.out)
  clear hb7 hz7 s0 s1 s2 sl t0 t1 t2 tl
  have s0 : v7.cell? ⟨v2.heap.size, 0, none⟩ = some (.int .i64 st) := HS7.out.cell 0
  have s1 : v7.cell? ⟨v2.heap.size, 1, none⟩ = some (.int .i64 sp) := HS7.out.cell 1
  have s2 : v7.cell? ⟨v2.heap.size, 2, none⟩ = some (.slice A n c) := HS7.out.cell 2
  have sl := HS7.out.lt
  go_wp2_with fail
  go_at_call 13
  refine (W2.out _ (by first | exact HV0.out.bel HB07.out | exact HV0.out.bel HB07.out.drw | exact HV0.out.bel (HB07.out.drwN _))).mono ?_
  rintro e v8 ⟨A8, c8, rfl, hz8, hb8⟩
  have HB78 : Hid (Bel v7 v8) := (by first | exact hb8 | exact Bel.rf.drw.tr hb8 | exact (Bel.rf.drwN _).tr hb8)
  have HZ8 := Lib.hid hz8
  clear hb8 hz8 s0 s1 s2 sl
  go_wp2_with fail
  go_at_call 15
  refine (ints_same A7 A8 c7 c8 z Z (by omega) _ (by first | exact HZ7.out.bel HB78.out | exact HZ7.out.bel HB78.out.drw | exact HZ7.out.bel (HB78.out.drwN _)) (by first | exact HZ8.out | exact HZ8.out.bel Bel.rf.drw | exact HZ8.out.bel (Bel.rf.drwN _))).mono ?_
  rintro e v9 ⟨rfl, hb9⟩
  have HB89 : Hid (Bel v8 v9) := (by first | exact hb9 | exact Bel.rf.drw.tr hb9 | exact (Bel.rf.drwN _).tr hb9)
  clear hb9
  go_wp2_with fail
  go_at_call 11
  refine (AW.out _).mono ?_
  rintro e v10 ⟨rfl, hb10⟩
  have HB910 : Hid (Bel v9 v10) := (by first | exact hb10 | exact Bel.rf.drw.tr hb10 | exact (Bel.rf.drwN _).tr hb10)
  go_wp2
  go_ret
  exact ⟨rfl, (HB0.out.tr (HB07.out.tr (HB78.out.tr (HB89.out.tr HB910.out)))).bl⟩

set_option maxRecDepth 100000 in
theorem lifted (os : Os) (started : os.Started) (H : Type) (enc : TypeId × Value → H) :
    ReturnsInHanded {} Try.checked os 7 .any (Rows.seriesLongerSpec.pre6 enc Try.prog Try.f7 Rows.seriesLongerRow.domain false) (Rows.seriesLongerSpec.post enc Try.prog Try.f7 false true false false) := by
  refine returnsInHanded_of_change (C := Try.checked) own started (by kernel_rfl) Try.func7
    (ChangeSpec.witness6 (enc := enc) (C := Try.checked) false ⟨#[], #[.slice none 0 0, .int .u8 0, .int .u8 0, .int .u8 0], []⟩ 8 (by kernel_rfl) (by kernel_rfl) (by kernel_rfl) (by kernel_rfl)) ?_
  intro W base args ds gs before hval0 hW hcnd _
  have hval : ∀ (j : Nat) t v, Try.f7.params[j]? = some t → args[j]? = some v → Value.okWide Try.prog W .any base t v := hval0
  have hW' := hW
  obtain ⟨p, q, hA0, hV, rfl, hfz, hnd⟩ := hW
  have hA : DataW.TrodAll enc Try.prog W 0 (fun _ => true) true Try.f7.params.toList args.toList ds p := hA0
  rw [Try.params7] at hA hval
  obtain ⟨v0, vs0, d0, ds0, p0, q0, hargs, rfl, rfl, h0, r0⟩ := trodAll_cons hA
  obtain ⟨v1, vs1, d1, ds1, p1, q1, rfl, rfl, rfl, h1, r1⟩ := trodAll_cons r0
  obtain ⟨v2, vs2, d2, ds2, p2, q2, rfl, rfl, rfl, h2, r2⟩ := trodAll_cons r1
  obtain ⟨v3, vs3, d3, ds3, p3, q3, rfl, rfl, rfl, h3, r3⟩ := trodAll_cons r2
  obtain ⟨rfl, rfl, rfl⟩ := trodAll_nil r3
  obtain rfl : args = #[v0, v1, v2, v3] := by cases args; simp_all
  obtain ⟨rfl, rfl⟩ := trodVars_none hV
  obtain ⟨a0, len0, cap0, rfl⟩ := okWide_slice Try.underlying22 (hval 0 22 v0 rfl rfl)
  have k0 := h0
  have lt0 : ∀ x ∈ p0, x.block < W.heap.size := by obtain ⟨m, hm⟩ := k0; exact DataW.trod_lt m _ _ _ hm
  obtain ⟨z0, w0⟩ : ∃ zs, IsRow .i64 W a0 len0 cap0 zs := by
    obtain ⟨fuel, hf⟩ := h0
    rcases open_ints Try.underlying22 Try.underlying3 (by kernel_rfl) hf with ⟨hcs, _⟩ | ⟨x, l, c, zs, hcs, _, hl, hm, hz, _, hcell, hwz⟩
    · simp [Value.cells] at hcs
      obtain ⟨rfl, rfl, rfl⟩ := hcs
      exact ⟨[], .inl ⟨rfl, rfl, rfl, rfl⟩⟩
    · simp [Value.cells] at hcs
      obtain ⟨rfl, rfl, rfl⟩ := hcs
      exact ⟨zs, .inr ⟨_, rfl, hl, hm, by simpa using hz, hcell, hwz⟩⟩
  obtain ⟨a1, rfl, rfl, rfl, w1⟩ := open_int Try.underlying5 (hval 1 5 v1 rfl rfl) h1
  obtain ⟨a2, rfl, rfl, rfl, w2⟩ := open_int Try.underlying5 (hval 2 5 v2 rfl rfl) h2
  obtain ⟨a3, rfl, rfl, rfl, w3⟩ := open_int Try.underlying5 (hval 3 5 v3 rfl rfl) h3
  clear hA0 hval0
  refine (walk a0 len0 cap0 z0 a1 a2 a3 W w0 w1 w2 w3).mono fun e W' ⟨he, bel⟩ => ?_
  subst he
  exact ⟨_, rfl, _, _, _, [], _, [], hW', trodAll_mk1 (shut_bool Try.underlying4 _), (trodAll_cons_mk (Below.trod laidOut (by kernel_rfl) (of_decide_eq_true (by kernel_rfl)) k0 bel lt0) (trodAll_cons_mk (shut_int Try.underlying5 w1) (trodAll_cons_mk (shut_int Try.underlying5 w2) (trodAll_cons_mk (shut_int Try.underlying5 w3) trodAll_mk0)))), rfl, bel.frame _, fun h => by cases h⟩

theorem over : Rows.seriesLongerRow.holds Try.pinned (OpenSpec.ofChange Rows.seriesLongerSpec) :=
  OpenClaim.holds_of_wide 7 Try.f7 rfl rfl rfl rfl rfl rfl rfl ⟨rfl, rfl, rfl, rfl, rfl⟩ rfl rfl rfl rfl rfl (by kernel_rfl) Try.func7 (by kernel_rfl)
    (of_decide_eq_true (by kernel_rfl)) (by unfold Func.isWrapper; first | (rw [if_pos (by decide +kernel)]; kernel_rfl) | (rw [if_neg (by decide +kernel)]; exact ⟨rfl, rfl⟩))
    (fun os started H enc _ => lifted os started H enc)

theorem proved : Rows.SeriesLongerSaid := over
end Go.Proofs.Ythpmgadmefhfpaa.seriesLonger
