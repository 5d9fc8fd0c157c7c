/- That the law SeriesParts returns true for every input that can be read, and leaves its arguments as they were; no further condition. -/
import Derived.Test.YthpmgadmefhfpaaRows
import Derived.WalkKit
import Derived.ProofKit
import Derived.OpenShut
import Derived.Test.YthpmgadmefhfpaaWords
import Derived.Test.YthpmgadmefhfpaaSrcNew0
import Derived.Test.YthpmgadmefhfpaaSerM
import Derived.ShutString
import Derived.ChangeOld
import Derived.Below
namespace Go.Proofs.Ythpmgadmefhfpaa.seriesParts
open Go.ChangeShapes Go.WideShapes Go.ChangeAt Go.RowKit Wo
open Go.ChangeMaps (open_string shut_string)
set_option linter.unusedVariables false

theorem own : ownKnob Try.prog.godebug = none := by kernel_rfl
theorem laidOut : laidOutB Try.prog = true := by kernel_rfl

/-- WHAT THE WALK IS TOLD OF A SLICE OF INTEGERS THAT CAME IN: it is nil; or it leads to a row of 'cap' cells, the numbers 'zs' (the first 'len' are its elements, the rest its spare room), each fitting its kind. -/
def IsRow (k : IntKind) (w : World) (a : Option Addr) (len cap : Nat) (zs : List Int) : Prop :=
  (a = none ∧ len = 0 ∧ cap = 0 ∧ zs = []) ∨
  ∃ x, a = some x ∧ len ≤ cap ∧ cap ≤ maxLen ∧ zs.length = cap ∧ (∀ i, i < zs.length → w.cell? (x.add i) = some (.int k (zs.getD i 0))) ∧ ∀ n ∈ zs, (Lit.int k n).wf = true

open Go.Proofs.Ythpmgadmefhfpaa.Se Go.Proofs.Ythpmgadmefhfpaa.Wi Go.Proofs.Ythpmgadmefhfpaa.Wo Go.Proofs.Ythpmgadmefhfpaa.Sr in
set_option maxHeartbeats 4000000 in
set_option maxRecDepth 100000 in
theorem walk (a0 : Option Addr) (len0 cap0 : Nat) (z0 : List Int) (a1 : Int) (a2 : Int) (a3 : Int) (w : World) (w0 : IsRow .i64 w a0 len0 cap0 z0) (w1 : (Lit.int .u8 a1).wf = true) (w2 : (Lit.int .u8 a2).wf = true) (w3 : (Lit.int .u8 a3).wf = true) :
    Calls Try.prog 5 #[.slice a0 len0 cap0, .int .u8 a1, .int .u8 a2, .int .u8 a3] w fun e w' => e = .returned (.bool true) ∧ Below w.heap.size w w' := by
  obtain ⟨i1a, i1b⟩ := bounds_u8 w1
  clear w1
  obtain ⟨i2a, i2b⟩ := bounds_u8 w2
  clear w2
  obtain ⟨i3a, i3b⟩ := bounds_u8 w3
  clear w3
  obtain ⟨g3, rfl⟩ := Int.eq_ofNat_of_zero_le i3a
  have g3b : g3 ≤ 255 := by omega
  have AW : Hid (∀ W, Calls Try.prog 11 #[] W fun e w' => e = .returned (.bool true) ∧ Bel W w') := awake_any
  go_enter Try.func5, Try.ntmps5
  go_wp2_with fail
  go_at_call 8
  refine (new_any a0 len0 cap0 z0 w w0).mono ?_
  rintro e v1 ⟨g, rfl, hg, ho1, hb1⟩
  have HO1 := Lib.hid ho1
  have HB1 := Lib.hid hb1
  clear ho1 hb1 w0
  go_wp2_with fail
  go_at_call 9
  refine (series_any g 40 (by decide) _ HO1.out).mono ?_
  rintro e v2 ⟨st, sp, A, n, c, L, rfl, st0, st1, sp0, sp1, n40, hsv, hvs, _, _, hc⟩
  have HB2 : Hid (Bel w v2) := Bel.ch HB1.out hc hg
  have HSB : Hid (Sb st sp n) := ⟨st0, by omega, sp0, sp1, by omega⟩
  have HSV := Lib.hid hsv
  have HVS := Lib.hid hvs
  have HL := Lib.hid hvs.1.1
  have HS := Lib.hid (Bk.nw v2 24 #[.int .i64 st, .int .i64 sp, .slice A n c])
  have HB0 : Hid (Bel w (v2.alloc (.cells #[.int .i64 st, .int .i64 sp, .slice A n c] 24))) := HB2.out.al _
  have HV0 : Hid (Vs (v2.alloc (.cells #[.int .i64 st, .int .i64 sp, .slice A n c] 24)) A n c L) := hvs.bel (Bel.rf.al _)
  obtain ⟨V0, hV0⟩ : ∃ V0, v2.alloc (.cells #[.int .i64 st, .int .i64 sp, .slice A n c] 24) = V0 := ⟨_, rfl⟩
  rw [hV0] at HS HB0 HV0
  have ni : (n : Int) ≤ 40 := by omega
  clear hsv hvs hc
  have HLL := HL.out
  have m0 := Int.emod_nonneg a1 (b := (n : Int) + 1) (by omega)
  have m1 := Int.emod_lt_of_pos a1 (b := (n : Int) + 1) (by omega)
  obtain ⟨i, hi⟩ := Int.eq_ofNat_of_zero_le m0
  have hin : i ≤ n := by omega
  have MD1 : Hid (∀ W, Calls Try.prog 16 #[.int .i64 a1, .int .i64 ((n : Int) + 1)] W fun e w' => e = .returned (.int .i64 (i : Int)) ∧ W = w') := fun W => by rw [← hi]; exact mod_any a1 _ (by omega) (by omega) (by omega) (by omega) W
  obtain ⟨r, hr⟩ : ∃ r, n - i = r := ⟨_, rfl⟩
  have hri : (n : Int) - (i : Int) = (r : Int) := by omega
  have n0 := Int.emod_nonneg a2 (b := (r : Int) + 1) (by omega)
  have n1 := Int.emod_lt_of_pos a2 (b := (r : Int) + 1) (by omega)
  obtain ⟨k, hk⟩ := Int.eq_ofNat_of_zero_le n0
  have hkr : k ≤ r := by omega
  have MD2 : Hid (∀ W, Calls Try.prog 16 #[.int .i64 a2, .int .i64 ((r : Int) + 1)] W fun e w' => e = .returned (.int .i64 (k : Int)) ∧ W = w') := fun W => by rw [← hk]; exact mod_any a2 _ (by omega) (by omega) (by omega) (by omega) W
  clear m0 m1 n0 n1 hi hk
  obtain ⟨M, hM⟩ : ∃ M, i + k = M := ⟨_, rfl⟩
  have hMi : (i : Int) + (k : Int) = (M : Int) := by omega
  obtain ⟨N, hN⟩ : ∃ N, i + g3 + k = N := ⟨_, rfl⟩
  obtain ⟨t, ht⟩ : ∃ t, i + g3 = t := ⟨_, rfl⟩
  have hti : (i : Int) + (g3 : Int) = (t : Int) := by omega
  have htk : (t : Int) + (k : Int) = (N : Int) := by omega
  obtain ⟨q1, hq1⟩ : ∃ q, (i : Int) * sp = q := ⟨_, rfl⟩
  obtain ⟨q2, hq2⟩ : ∃ q, sp * (g3 : Int) = q := ⟨_, rfl⟩
  have qb1 := sb_mul sp0 sp1 (show i ≤ 3000 by omega)
  have qb2 := sb_mul sp0 sp1 (show g3 ≤ 3000 by omega)
  rw [Int.mul_comm, hq1] at qb1
  rw [hq2] at qb2
  obtain ⟨q10, q11⟩ := qb1
  obtain ⟨q20, q21⟩ := qb2
  obtain ⟨p, hp⟩ : ∃ p, st + q1 = p := ⟨_, rfl⟩
  obtain ⟨p2, hp2⟩ : ∃ s, p + q2 = s := ⟨_, rfl⟩
  obtain ⟨LA, hLA⟩ : ∃ X, L.take i = X := ⟨_, rfl⟩
  obtain ⟨LB, hLB⟩ : ∃ X, (L.drop i).take k = X := ⟨_, rfl⟩
  obtain ⟨LM, hLM⟩ : ∃ X, L.take M = X := ⟨_, rfl⟩
  obtain ⟨LJ, hLJ⟩ : ∃ X, LA ++ List.replicate g3 1073741824 ++ LB = X := ⟨_, rfl⟩
  have lA : LA.length = i := by rw [← hLA]; simp; omega
  have lB : LB.length = k := by rw [← hLB]; simp; omega
  have hAB : LA ++ LB = LM := by rw [← hLA, ← hLB, ← hLM, ← hM]; simp [List.take_add]
  have hJB : (LJ.drop t).take k = LB := by
    rw [← hLJ, List.drop_append_of_le_length (by simp; omega), ← ht]
    have : (LA ++ List.replicate g3 1073741824).drop (i + g3) = [] := by apply List.drop_of_length_le; simp; omega
    rw [this, List.nil_append, List.take_of_length_le (by omega)]
  have HSVA : Hid (Sv LA) := by rw [← hLA]; exact HSV.out.take i
  have HSVB : Hid (Sv LB) := by rw [← hLB]; exact (HSV.out.drop i).take k
  have HSVJ : Hid (Sv LJ) := by rw [← hLJ]; exact (HSVA.out.app (Sv.rep _)).app HSVB.out
  have HSA : Hid (Sb st sp i) := ⟨st0, by omega, sp0, sp1, by omega⟩
  have HSP : Hid (Sb p sp k) := ⟨by omega, by omega, sp0, sp1, by omega⟩
  have HSQ : Hid (Sb p2 sp k) := ⟨by omega, by omega, sp0, sp1, by omega⟩
  have HSJ : Hid (Sb st sp N) := ⟨st0, by omega, sp0, sp1, by omega⟩
  have CU1 : Hid (∀ W, Vs W A n c L → Calls Try.prog 17 #[.agg #[.int .i64 st, .int .i64 sp, .slice A n c], .int .i64 0, .int .i64 (i : Int)] W (SomeCut st sp i LA W)) := fun W hW => by
    have := cut_any st sp A n c L HSB.out HSV.out 0 i (by omega) st (by simp) W hW
    rw [List.drop_zero, hLA] at this
    exact this
  have CU2 : Hid (∀ W, Vs W A n c L → Calls Try.prog 17 #[.agg #[.int .i64 st, .int .i64 sp, .slice A n c], .int .i64 (i : Int), .int .i64 (k : Int)] W (SomeCut p sp k LB W)) := fun W hW => by
    have := cut_any st sp A n c L HSB.out HSV.out i k (by omega) p (by rw [hq1]; exact hp) W hW
    rwa [hLB] at this
  have JC : Hid (∀ W X cx Y cy, Vs W X i cx LA → Vs W Y k cy LB → Calls Try.prog 18 #[.agg #[.int .i64 st, .int .i64 sp, .slice X i cx], .agg #[.int .i64 p, .int .i64 sp, .slice Y k cy]] W (SomeCut st sp M LM W)) := fun W X cx Y cy h h' => by
    have := join_any st p sp X Y i cx k cy 0 LA LB HSA.out HSP.out HSVA.out HSVB.out (by rw [Int.mul_comm sp, hq1]; simp; omega) (by omega) (by omega) W h h'
    rw [Nat.add_zero, hM, List.replicate_zero, List.append_nil, hAB] at this
    exact this
  have CU3 : Hid (∀ W, Vs W A n c L → Calls Try.prog 17 #[.agg #[.int .i64 st, .int .i64 sp, .slice A n c], .int .i64 0, .int .i64 (M : Int)] W (SomeCut st sp M LM W)) := fun W hW => by
    have := cut_any st sp A n c L HSB.out HSV.out 0 M (by omega) st (by simp) W hW
    rw [List.drop_zero, hLM] at this
    exact this
  have JJ : Hid (∀ W X cx Y cy, Vs W X i cx LA → Vs W Y k cy LB → Calls Try.prog 18 #[.agg #[.int .i64 st, .int .i64 sp, .slice X i cx], .agg #[.int .i64 p2, .int .i64 sp, .slice Y k cy]] W (SomeCut st sp N LJ W)) := fun W X cx Y cy h h' => by
    have := join_any st p2 sp X Y i cx k cy g3 LA LB HSA.out HSQ.out HSVA.out HSVB.out (by rw [Int.mul_comm sp (i : Int), hq1, hq2]; omega) (by omega) (by omega) W h h'
    rw [hN, hLJ] at this
    exact this
  have CU4 : Hid (∀ W X cx, Vs W X N cx LJ → Calls Try.prog 17 #[.agg #[.int .i64 st, .int .i64 sp, .slice X N cx], .int .i64 (t : Int), .int .i64 (k : Int)] W (SomeCut p2 sp k LB W)) := fun W X cx hW => by
    have e : (t : Int) * sp = q1 + q2 := by rw [← hti, Int.add_mul, hq1, Int.mul_comm, hq2]
    have := cut_any st sp X N cx LJ HSJ.out HSVJ.out t k (by omega) p2 (by rw [e]; omega) W hW
    rwa [hJB] at this
  obtain ⟨ka, hka⟩ : ∃ z, (sts LA 1).length = z := ⟨_, rfl⟩
  obtain ⟨kb, hkb⟩ : ∃ z, (sts LB 1).length = z := ⟨_, rfl⟩
  obtain ⟨kj, hkj⟩ : ∃ z, (sts LJ 1).length = z := ⟨_, rfl⟩
  have hsum : (ka : Int) + (kb : Int) = (kj : Int) := by
    rw [← hka, ← hkb, ← hkj, sts_one, sts_one, sts_one, ← hLJ, cnt_app, cnt_app, cnt_rep]; omega
  have kjb : kj ≤ 2000 := by have := sts_small LJ 1 (by omega); rw [← hLJ] at this; rw [← hkj, ← hLJ]; simp at this ⊢; omega
  have wkj : IntKind.i64.wrap ((ka : Int) + (kb : Int)) = (kj : Int) := by rw [hsum]; exact IntWalk.i64_in _ (by omega)
  have ST : ∀ (s0 : Int) (q : Nat) (Z : List Int) (z : Nat), Sb s0 sp q → Sv Z → (sts Z 1).length = z → Hid (∀ W X cx, Vs W X q cx Z → Calls Try.prog 12 #[.agg #[.int .i64 s0, .int .i64 sp, .slice X q cx], .int .i64 1] W fun e w' => ∃ (Y : Option Addr) (cy : Nat), e = .returned (.slice Y z cy) ∧ Bel W w') := fun s0 q Z z h h2 h3 W X cx hW => by
    refine (starts_c s0 sp X q cx 1 Z h h2 (by omega) (by omega) W hW.1).mono ?_
    rintro e w' ⟨Y, k', cy, he, hk', _, hb⟩
    rw [h3] at hk'
    subst hk'
    exact ⟨Y, cy, he, hb⟩
  have SJ := ST st N LJ kj HSJ.out HSVJ.out hkj
  have SA := ST st i LA ka HSA.out HSVA.out hka
  have SQ := ST p2 k LB kb HSQ.out HSVB.out hkb
  clear ST
  have w1 : IntKind.i64.wrap q2 = q2 := IntWalk.i64_in _ (by omega)
  have w2 : IntKind.i64.wrap p2 = p2 := IntWalk.i64_in _ (by omega)
  have ib : (i : Int) ≤ 40 := by omega
  have rb : (r : Int) ≤ 40 := by omega
  have kb2 : (k : Int) ≤ 40 := by omega
  have gb : (g3 : Int) ≤ 255 := by omega
  have Nb : N ≤ 400 := by omega
  have Nb2 : (N : Int) ≤ 400 := by omega
  have Mb : M ≤ 40 := by omega
  have tb : (t : Int) ≤ 300 := by omega
  have pb : 0 ≤ p ∧ p ≤ 100000 := by omega
  obtain ⟨pb0, pb1⟩ := pb
  have pc : 0 ≤ p2 ∧ p2 ≤ 200000 := by omega
  obtain ⟨pc0, pc1⟩ := pc
  have nN := ne_self (N : Int)
  have nN2 : (N != N) = false := by simp
  clear hLA hLB hLM hLJ lA lB hAB hJB hka hkb hkj hM hN ht hr hq1 hp HLL hin hkr
  have K0s := Lib.hid HS.out
  have HB00 : Hid (Bel V0 V0) := Bel.rf
  have s0 : V0.cell? ⟨v2.heap.size, 0, none⟩ = some (.int .i64 st) := K0s.out.cell 0
  have s1 : V0.cell? ⟨v2.heap.size, 1, none⟩ = some (.int .i64 sp) := K0s.out.cell 1
  have s2 : V0.cell? ⟨v2.heap.size, 2, none⟩ = some (.slice A n c) := K0s.out.cell 2
  have sl := K0s.out.lt
  go_wp2_with fail
  (try rw [hV0])
  go_wp2_with fail
  go_at_call 16
  refine (MD1.out _).mono ?_
  rintro e v2a ⟨rfl, rfl⟩
  go_wp2_with fail
  go_at_call 16
  refine (MD2.out _).mono ?_
  rintro e v2a ⟨rfl, rfl⟩
  go_wp2_with fail
  go_at_call 17
  refine (CU1.out _ (by first | exact HV0.out | exact HV0.out.bel Bel.rf.drw | exact HV0.out.bel (Bel.rf.drwN _))).mono ?_
  rintro e v1 ⟨AA, cA, rfl, hv, hb⟩
  have HBa : Hid (Bel V0 v1) := (by first | exact hb | exact Bel.rf.drw.tr hb | exact (Bel.rf.drwN _).tr hb)
  have HB2 : Hid (Bel V0 (v1.alloc (.cells #[.int .i64 st, .int .i64 sp, .slice AA i cA] 24))) := (HB00.out.tr HBa.out).al _
  have K2s := Lib.hid ((K0s.out.bel HBa.out).al (.cells #[.int .i64 st, .int .i64 sp, .slice AA i cA] 24))
  have K2a := Lib.hid (Bk.nw v1 24 #[.int .i64 st, .int .i64 sp, .slice AA i cA])
  have HVa2 := Lib.hid (hv.bel (Bel.rf.al (.cells #[.int .i64 st, .int .i64 sp, .slice AA i cA] 24)))
  obtain ⟨V2, hV⟩ : ∃ V, v1.alloc (.cells #[.int .i64 st, .int .i64 sp, .slice AA i cA] 24) = V := ⟨_, rfl⟩
  rw [hV] at K2a K2s HB2 HVa2
  clear hv hb HBa s0 s1 s2 sl
  have s0 : V2.cell? ⟨v2.heap.size, 0, none⟩ = some (.int .i64 st) := K2s.out.cell 0
  have s1 : V2.cell? ⟨v2.heap.size, 1, none⟩ = some (.int .i64 sp) := K2s.out.cell 1
  have s2 : V2.cell? ⟨v2.heap.size, 2, none⟩ = some (.slice A n c) := K2s.out.cell 2
  have sl := K2s.out.lt
  go_wp2_with fail
  (try rw [hV])
  go_wp2_with fail
  clear hV
  go_at_call 17
  refine (CU2.out _ (by first | exact (HV0.out.bel HB2.out) | exact (HV0.out.bel HB2.out).bel Bel.rf.drw | exact (HV0.out.bel HB2.out).bel (Bel.rf.drwN _))).mono ?_
  rintro e v3 ⟨AB, cB, rfl, hv, hb⟩
  have HBa : Hid (Bel V2 v3) := (by first | exact hb | exact Bel.rf.drw.tr hb | exact (Bel.rf.drwN _).tr hb)
  have HB4 : Hid (Bel V0 (v3.alloc (.cells #[.int .i64 p, .int .i64 sp, .slice AB k cB] 24))) := (HB2.out.tr HBa.out).al _
  have K4a := Lib.hid ((K2a.out.bel HBa.out).al (.cells #[.int .i64 p, .int .i64 sp, .slice AB k cB] 24))
  have K4s := Lib.hid ((K2s.out.bel HBa.out).al (.cells #[.int .i64 p, .int .i64 sp, .slice AB k cB] 24))
  have K4b := Lib.hid (Bk.nw v3 24 #[.int .i64 p, .int .i64 sp, .slice AB k cB])
  have HVa4 := Lib.hid ((HVa2.out.bel HBa.out).bel (Bel.rf.al (.cells #[.int .i64 p, .int .i64 sp, .slice AB k cB] 24)))
  have HVb4 := Lib.hid (hv.bel (Bel.rf.al (.cells #[.int .i64 p, .int .i64 sp, .slice AB k cB] 24)))
  obtain ⟨V4, hV⟩ : ∃ V, v3.alloc (.cells #[.int .i64 p, .int .i64 sp, .slice AB k cB] 24) = V := ⟨_, rfl⟩
  rw [hV] at K4a K4b K4s HB4 HVa4 HVb4
  clear hv hb HBa s0 s1 s2 sl
  have a0 : V4.cell? ⟨v1.heap.size, 0, none⟩ = some (.int .i64 st) := K4a.out.cell 0
  have a1 : V4.cell? ⟨v1.heap.size, 1, none⟩ = some (.int .i64 sp) := K4a.out.cell 1
  have a2 : V4.cell? ⟨v1.heap.size, 2, none⟩ = some (.slice AA i cA) := K4a.out.cell 2
  have al := K4a.out.lt
  have b0 : V4.cell? ⟨v3.heap.size, 0, none⟩ = some (.int .i64 p) := K4b.out.cell 0
  have b1 : V4.cell? ⟨v3.heap.size, 1, none⟩ = some (.int .i64 sp) := K4b.out.cell 1
  have b2 : V4.cell? ⟨v3.heap.size, 2, none⟩ = some (.slice AB k cB) := K4b.out.cell 2
  have bl := K4b.out.lt
  go_wp2_with fail
  (try rw [hV])
  go_wp2_with fail
  clear hV
  go_at_call 18
  refine (JC.out _ _ _ _ _ (by first | exact HVa4.out | exact HVa4.out.bel Bel.rf.drw | exact HVa4.out.bel (Bel.rf.drwN _)) (by first | exact HVb4.out | exact HVb4.out.bel Bel.rf.drw | exact HVb4.out.bel (Bel.rf.drwN _))).mono ?_
  rintro e v5 ⟨AD, cD, rfl, hv, hb⟩
  have HBa : Hid (Bel V4 v5) := (by first | exact hb | exact Bel.rf.drw.tr hb | exact (Bel.rf.drwN _).tr hb)
  have HB6 : Hid (Bel V0 (v5.alloc (.cells #[.int .i64 st, .int .i64 sp, .slice AD M cD] 24))) := (HB4.out.tr HBa.out).al _
  have K6a := Lib.hid ((K4a.out.bel HBa.out).al (.cells #[.int .i64 st, .int .i64 sp, .slice AD M cD] 24))
  have K6b := Lib.hid ((K4b.out.bel HBa.out).al (.cells #[.int .i64 st, .int .i64 sp, .slice AD M cD] 24))
  have K6s := Lib.hid ((K4s.out.bel HBa.out).al (.cells #[.int .i64 st, .int .i64 sp, .slice AD M cD] 24))
  have K6d := Lib.hid (Bk.nw v5 24 #[.int .i64 st, .int .i64 sp, .slice AD M cD])
  have HVa6 := Lib.hid ((HVa4.out.bel HBa.out).bel (Bel.rf.al (.cells #[.int .i64 st, .int .i64 sp, .slice AD M cD] 24)))
  have HVb6 := Lib.hid ((HVb4.out.bel HBa.out).bel (Bel.rf.al (.cells #[.int .i64 st, .int .i64 sp, .slice AD M cD] 24)))
  have HVd6 := Lib.hid (hv.bel (Bel.rf.al (.cells #[.int .i64 st, .int .i64 sp, .slice AD M cD] 24)))
  obtain ⟨V6, hV⟩ : ∃ V, v5.alloc (.cells #[.int .i64 st, .int .i64 sp, .slice AD M cD] 24) = V := ⟨_, rfl⟩
  rw [hV] at K6a K6b K6d K6s HB6 HVa6 HVb6 HVd6
  clear hv hb HBa a0 a1 a2 al b0 b1 b2 bl
  have s0 : V6.cell? ⟨v2.heap.size, 0, none⟩ = some (.int .i64 st) := K6s.out.cell 0
  have s1 : V6.cell? ⟨v2.heap.size, 1, none⟩ = some (.int .i64 sp) := K6s.out.cell 1
  have s2 : V6.cell? ⟨v2.heap.size, 2, none⟩ = some (.slice A n c) := K6s.out.cell 2
  have sl := K6s.out.lt
  go_wp2_with fail
  (try rw [hV])
  go_wp2_with fail
  clear hV
  go_at_call 17
  refine (CU3.out _ (by first | exact (HV0.out.bel HB6.out) | exact (HV0.out.bel HB6.out).bel Bel.rf.drw | exact (HV0.out.bel HB6.out).bel (Bel.rf.drwN _))).mono ?_
  rintro e v7 ⟨AF, cF, rfl, hv, hb⟩
  have HBa : Hid (Bel V6 v7) := (by first | exact hb | exact Bel.rf.drw.tr hb | exact (Bel.rf.drwN _).tr hb)
  have HB8 : Hid (Bel V0 (v7.alloc (.cells #[.int .i64 st, .int .i64 sp, .slice AF M cF] 24))) := (HB6.out.tr HBa.out).al _
  have K8a := Lib.hid ((K6a.out.bel HBa.out).al (.cells #[.int .i64 st, .int .i64 sp, .slice AF M cF] 24))
  have K8b := Lib.hid ((K6b.out.bel HBa.out).al (.cells #[.int .i64 st, .int .i64 sp, .slice AF M cF] 24))
  have K8d := Lib.hid ((K6d.out.bel HBa.out).al (.cells #[.int .i64 st, .int .i64 sp, .slice AF M cF] 24))
  have K8s := Lib.hid ((K6s.out.bel HBa.out).al (.cells #[.int .i64 st, .int .i64 sp, .slice AF M cF] 24))
  have K8f := Lib.hid (Bk.nw v7 24 #[.int .i64 st, .int .i64 sp, .slice AF M cF])
  have HVa8 := Lib.hid ((HVa6.out.bel HBa.out).bel (Bel.rf.al (.cells #[.int .i64 st, .int .i64 sp, .slice AF M cF] 24)))
  have HVb8 := Lib.hid ((HVb6.out.bel HBa.out).bel (Bel.rf.al (.cells #[.int .i64 st, .int .i64 sp, .slice AF M cF] 24)))
  have HVd8 := Lib.hid ((HVd6.out.bel HBa.out).bel (Bel.rf.al (.cells #[.int .i64 st, .int .i64 sp, .slice AF M cF] 24)))
  have HVf8 := Lib.hid (hv.bel (Bel.rf.al (.cells #[.int .i64 st, .int .i64 sp, .slice AF M cF] 24)))
  obtain ⟨V8, hV⟩ : ∃ V, v7.alloc (.cells #[.int .i64 st, .int .i64 sp, .slice AF M cF] 24) = V := ⟨_, rfl⟩
  rw [hV] at K8a K8b K8d K8f K8s HB8 HVa8 HVb8 HVd8 HVf8
  clear hv hb HBa s0 s1 s2 sl
  have d0 : V8.cell? ⟨v5.heap.size, 0, none⟩ = some (.int .i64 st) := K8d.out.cell 0
  have d1 : V8.cell? ⟨v5.heap.size, 1, none⟩ = some (.int .i64 sp) := K8d.out.cell 1
  have d2 : V8.cell? ⟨v5.heap.size, 2, none⟩ = some (.slice AD M cD) := K8d.out.cell 2
  have dl := K8d.out.lt
  have f0 : V8.cell? ⟨v7.heap.size, 0, none⟩ = some (.int .i64 st) := K8f.out.cell 0
  have f1 : V8.cell? ⟨v7.heap.size, 1, none⟩ = some (.int .i64 sp) := K8f.out.cell 1
  have f2 : V8.cell? ⟨v7.heap.size, 2, none⟩ = some (.slice AF M cF) := K8f.out.cell 2
  have fl := K8f.out.lt
  go_wp2_with fail
  (try rw [hV])
  go_wp2_with fail
  clear hV
  go_at_call 19
  refine (same_yes st sp AD AF cD cF M LM (by omega) _ (by first | exact HVd8.out.1 | exact HVd8.out.1.bel Bel.rf.drw | exact HVd8.out.1.bel (Bel.rf.drwN _)) (by first | exact HVf8.out.1 | exact HVf8.out.1.bel Bel.rf.drw | exact HVf8.out.1.bel (Bel.rf.drwN _))).mono ?_
  rintro e v9 ⟨rfl, hb⟩
  have HBa : Hid (Bel V8 v9) := (by first | exact hb | exact Bel.rf.drw.tr hb | exact (Bel.rf.drwN _).tr hb)
  have HB9 : Hid (Bel V0 v9) := HB8.out.tr HBa.out
  have K9s := Lib.hid (K8s.out.bel HBa.out)
  have K9a := Lib.hid (K8a.out.bel HBa.out)
  have K9b := Lib.hid (K8b.out.bel HBa.out)
  have HVa9 := Lib.hid (HVa8.out.bel HBa.out)
  have HVb9 := Lib.hid (HVb8.out.bel HBa.out)
  clear hb HBa d0 d1 d2 dl f0 f1 f2 fl
  have b0 : v9.cell? ⟨v3.heap.size, 0, none⟩ = some (.int .i64 p) := K9b.out.cell 0
  have b1 : v9.cell? ⟨v3.heap.size, 1, none⟩ = some (.int .i64 sp) := K9b.out.cell 1
  have b2 : v9.cell? ⟨v3.heap.size, 2, none⟩ = some (.slice AB k cB) := K9b.out.cell 2
  have bl := K9b.out.lt
  have s0 : v9.cell? ⟨v2.heap.size, 0, none⟩ = some (.int .i64 st) := K9s.out.cell 0
  have s1 : v9.cell? ⟨v2.heap.size, 1, none⟩ = some (.int .i64 sp) := K9s.out.cell 1
  have s2 : v9.cell? ⟨v2.heap.size, 2, none⟩ = some (.slice A n c) := K9s.out.cell 2
  have sl := K9s.out.lt
  have a0 : v9.cell? ⟨v1.heap.size, 0, none⟩ = some (.int .i64 st) := K9a.out.cell 0
  have a1 : v9.cell? ⟨v1.heap.size, 1, none⟩ = some (.int .i64 sp) := K9a.out.cell 1
  have a2 : v9.cell? ⟨v1.heap.size, 2, none⟩ = some (.slice AA i cA) := K9a.out.cell 2
  have al := K9a.out.lt
  go_wp2_with fail
  have K10l := Lib.hid (Bk.nw v9 24 #[.int .i64 p2, .int .i64 sp, .slice AB k cB])
  have K10s := Lib.hid (K9s.out.al (.cells #[.int .i64 p2, .int .i64 sp, .slice AB k cB] 24))
  have K10a := Lib.hid (K9a.out.al (.cells #[.int .i64 p2, .int .i64 sp, .slice AB k cB] 24))
  have K10b := Lib.hid (K9b.out.al (.cells #[.int .i64 p2, .int .i64 sp, .slice AB k cB] 24))
  have HVa10 := Lib.hid (HVa9.out.bel (Bel.rf.al (.cells #[.int .i64 p2, .int .i64 sp, .slice AB k cB] 24)))
  have HVb10 := Lib.hid (HVb9.out.bel (Bel.rf.al (.cells #[.int .i64 p2, .int .i64 sp, .slice AB k cB] 24)))
  have HB10 : Hid (Bel V0 (v9.alloc (.cells #[.int .i64 p2, .int .i64 sp, .slice AB k cB] 24))) := HB9.out.al _
  obtain ⟨V10, hV⟩ : ∃ V, v9.alloc (.cells #[.int .i64 p2, .int .i64 sp, .slice AB k cB] 24) = V := ⟨_, rfl⟩
  rw [hV] at K10l K10s K10a K10b HVa10 HVb10 HB10
  clear b0 b1 b2 bl s0 s1 s2 sl a0 a1 a2 al
  (try rw [hV])
  have a0 : V10.cell? ⟨v1.heap.size, 0, none⟩ = some (.int .i64 st) := K10a.out.cell 0
  have a1 : V10.cell? ⟨v1.heap.size, 1, none⟩ = some (.int .i64 sp) := K10a.out.cell 1
  have a2 : V10.cell? ⟨v1.heap.size, 2, none⟩ = some (.slice AA i cA) := K10a.out.cell 2
  have al := K10a.out.lt
  have l0 : V10.cell? ⟨v9.heap.size, 0, none⟩ = some (.int .i64 p2) := K10l.out.cell 0
  have l1 : V10.cell? ⟨v9.heap.size, 1, none⟩ = some (.int .i64 sp) := K10l.out.cell 1
  have l2 : V10.cell? ⟨v9.heap.size, 2, none⟩ = some (.slice AB k cB) := K10l.out.cell 2
  have ll := K10l.out.lt
  (try go_wp2_with fail)
  go_at_call 18
  refine (JJ.out _ _ _ _ _ (by first | exact HVa10.out | exact HVa10.out.bel Bel.rf.drw | exact HVa10.out.bel (Bel.rf.drwN _)) (by first | exact HVb10.out | exact HVb10.out.bel Bel.rf.drw | exact HVb10.out.bel (Bel.rf.drwN _))).mono ?_
  rintro e v11 ⟨AJ, cJ, rfl, hv, hb⟩
  have HBa : Hid (Bel V10 v11) := (by first | exact hb | exact Bel.rf.drw.tr hb | exact (Bel.rf.drwN _).tr hb)
  have HB12 : Hid (Bel V0 (v11.alloc (.cells #[.int .i64 st, .int .i64 sp, .slice AJ N cJ] 24))) := (HB10.out.tr HBa.out).al _
  have K12a := Lib.hid ((K10a.out.bel HBa.out).al (.cells #[.int .i64 st, .int .i64 sp, .slice AJ N cJ] 24))
  have K12b := Lib.hid ((K10b.out.bel HBa.out).al (.cells #[.int .i64 st, .int .i64 sp, .slice AJ N cJ] 24))
  have K12l := Lib.hid ((K10l.out.bel HBa.out).al (.cells #[.int .i64 st, .int .i64 sp, .slice AJ N cJ] 24))
  have K12s := Lib.hid ((K10s.out.bel HBa.out).al (.cells #[.int .i64 st, .int .i64 sp, .slice AJ N cJ] 24))
  have K12j := Lib.hid (Bk.nw v11 24 #[.int .i64 st, .int .i64 sp, .slice AJ N cJ])
  have HVa12 := Lib.hid ((HVa10.out.bel HBa.out).bel (Bel.rf.al (.cells #[.int .i64 st, .int .i64 sp, .slice AJ N cJ] 24)))
  have HVb12 := Lib.hid ((HVb10.out.bel HBa.out).bel (Bel.rf.al (.cells #[.int .i64 st, .int .i64 sp, .slice AJ N cJ] 24)))
  have HVj12 := Lib.hid (hv.bel (Bel.rf.al (.cells #[.int .i64 st, .int .i64 sp, .slice AJ N cJ] 24)))
  obtain ⟨V12, hV⟩ : ∃ V, v11.alloc (.cells #[.int .i64 st, .int .i64 sp, .slice AJ N cJ] 24) = V := ⟨_, rfl⟩
  rw [hV] at K12a K12b K12j K12l K12s HB12 HVa12 HVb12 HVj12
  clear hv hb HBa a0 a1 a2 al l0 l1 l2 ll
  have j0 : V12.cell? ⟨v11.heap.size, 0, none⟩ = some (.int .i64 st) := K12j.out.cell 0
  have j1 : V12.cell? ⟨v11.heap.size, 1, none⟩ = some (.int .i64 sp) := K12j.out.cell 1
  have j2 : V12.cell? ⟨v11.heap.size, 2, none⟩ = some (.slice AJ N cJ) := K12j.out.cell 2
  have jl := K12j.out.lt
  go_wp2_with fail
  (try rw [hV])
  go_wp2_with fail
  clear hV
  go_at_call 17
  refine (CU4.out _ _ _ (by first | exact HVj12.out | exact HVj12.out.bel Bel.rf.drw | exact HVj12.out.bel (Bel.rf.drwN _))).mono ?_
  rintro e v13 ⟨AU, cU, rfl, hv, hb⟩
  have HBa : Hid (Bel V12 v13) := (by first | exact hb | exact Bel.rf.drw.tr hb | exact (Bel.rf.drwN _).tr hb)
  have HB14 : Hid (Bel V0 (v13.alloc (.cells #[.int .i64 p2, .int .i64 sp, .slice AU k cU] 24))) := (HB12.out.tr HBa.out).al _
  have K14a := Lib.hid ((K12a.out.bel HBa.out).al (.cells #[.int .i64 p2, .int .i64 sp, .slice AU k cU] 24))
  have K14b := Lib.hid ((K12b.out.bel HBa.out).al (.cells #[.int .i64 p2, .int .i64 sp, .slice AU k cU] 24))
  have K14j := Lib.hid ((K12j.out.bel HBa.out).al (.cells #[.int .i64 p2, .int .i64 sp, .slice AU k cU] 24))
  have K14l := Lib.hid ((K12l.out.bel HBa.out).al (.cells #[.int .i64 p2, .int .i64 sp, .slice AU k cU] 24))
  have K14s := Lib.hid ((K12s.out.bel HBa.out).al (.cells #[.int .i64 p2, .int .i64 sp, .slice AU k cU] 24))
  have K14u := Lib.hid (Bk.nw v13 24 #[.int .i64 p2, .int .i64 sp, .slice AU k cU])
  have HVa14 := Lib.hid ((HVa12.out.bel HBa.out).bel (Bel.rf.al (.cells #[.int .i64 p2, .int .i64 sp, .slice AU k cU] 24)))
  have HVb14 := Lib.hid ((HVb12.out.bel HBa.out).bel (Bel.rf.al (.cells #[.int .i64 p2, .int .i64 sp, .slice AU k cU] 24)))
  have HVj14 := Lib.hid ((HVj12.out.bel HBa.out).bel (Bel.rf.al (.cells #[.int .i64 p2, .int .i64 sp, .slice AU k cU] 24)))
  have HVu14 := Lib.hid (hv.bel (Bel.rf.al (.cells #[.int .i64 p2, .int .i64 sp, .slice AU k cU] 24)))
  obtain ⟨V14, hV⟩ : ∃ V, v13.alloc (.cells #[.int .i64 p2, .int .i64 sp, .slice AU k cU] 24) = V := ⟨_, rfl⟩
  rw [hV] at K14a K14b K14j K14l K14s K14u HB14 HVa14 HVb14 HVj14 HVu14
  clear hv hb HBa j0 j1 j2 jl
  have u0 : V14.cell? ⟨v13.heap.size, 0, none⟩ = some (.int .i64 p2) := K14u.out.cell 0
  have u1 : V14.cell? ⟨v13.heap.size, 1, none⟩ = some (.int .i64 sp) := K14u.out.cell 1
  have u2 : V14.cell? ⟨v13.heap.size, 2, none⟩ = some (.slice AU k cU) := K14u.out.cell 2
  have ul := K14u.out.lt
  have l0 : V14.cell? ⟨v9.heap.size, 0, none⟩ = some (.int .i64 p2) := K14l.out.cell 0
  have l1 : V14.cell? ⟨v9.heap.size, 1, none⟩ = some (.int .i64 sp) := K14l.out.cell 1
  have l2 : V14.cell? ⟨v9.heap.size, 2, none⟩ = some (.slice AB k cB) := K14l.out.cell 2
  have ll := K14l.out.lt
  have j0 : V14.cell? ⟨v11.heap.size, 0, none⟩ = some (.int .i64 st) := K14j.out.cell 0
  have j1 : V14.cell? ⟨v11.heap.size, 1, none⟩ = some (.int .i64 sp) := K14j.out.cell 1
  have j2 : V14.cell? ⟨v11.heap.size, 2, none⟩ = some (.slice AJ N cJ) := K14j.out.cell 2
  have jl := K14j.out.lt
  have a0 : V14.cell? ⟨v1.heap.size, 0, none⟩ = some (.int .i64 st) := K14a.out.cell 0
  have a1 : V14.cell? ⟨v1.heap.size, 1, none⟩ = some (.int .i64 sp) := K14a.out.cell 1
  have a2 : V14.cell? ⟨v1.heap.size, 2, none⟩ = some (.slice AA i cA) := K14a.out.cell 2
  have al := K14a.out.lt
  go_wp2_with fail
  (try rw [hV])
  go_wp2_with fail
  clear hV
  have KS : Hid (∀ W', Bel V14 W' → (fun w' => w'.cell? ⟨v13.heap.size, 0, none⟩ = some (.int .i64 p2) ∧ w'.cell? ⟨v13.heap.size, 1, none⟩ = some (.int .i64 sp) ∧ w'.cell? ⟨v13.heap.size, 2, none⟩ = some (.slice AU k cU) ∧ w'.cell? ⟨v9.heap.size, 0, none⟩ = some (.int .i64 p2) ∧ w'.cell? ⟨v9.heap.size, 1, none⟩ = some (.int .i64 sp) ∧ w'.cell? ⟨v9.heap.size, 2, none⟩ = some (.slice AB k cB) ∧ w'.cell? ⟨v11.heap.size, 0, none⟩ = some (.int .i64 st) ∧ w'.cell? ⟨v11.heap.size, 1, none⟩ = some (.int .i64 sp) ∧ w'.cell? ⟨v11.heap.size, 2, none⟩ = some (.slice AJ N cJ) ∧ w'.cell? ⟨v1.heap.size, 0, none⟩ = some (.int .i64 st) ∧ w'.cell? ⟨v1.heap.size, 1, none⟩ = some (.int .i64 sp) ∧ w'.cell? ⟨v1.heap.size, 2, none⟩ = some (.slice AA i cA)) W') := fun W' h => ⟨h.kp u0, h.kp u1, h.kp u2, h.kp l0, h.kp l1, h.kp l2, h.kp j0, h.kp j1, h.kp j2, h.kp a0, h.kp a1, h.kp a2⟩
  have SM : Hid (∀ W, Bel V14 W → _) := fun W h => same_yes p2 sp AU AB cU cB k LB (by omega) W (HVu14.out.1.bel h) (HVb14.out.1.bel h)
  have TJ : Hid (∀ W, Bel V14 W → _) := fun W h => SJ.out W _ _ (HVj14.out.bel h)
  have TA : Hid (∀ W, Bel V14 W → _) := fun W h => SA.out W _ _ (HVa14.out.bel h)
  have TL : Hid (∀ W, Bel V14 W → _) := fun W h => SQ.out W _ _ (HVb14.out.bel h)
  clear u0 u1 u2 ul l0 l1 l2 ll j0 j1 j2 jl a0 a1 a2 al
  clear hMi hti htk hri hp2 hq2 w1 w2 ib rb kb2 gb Nb Nb2 Mb tb pb0 pb1 pc0 pc1 nN nN2 q10 q11 q20 q21 st0 st1 sp0 sp1 n40 ni g3b i1a i1b i2a i2b i3a i3b hV0 hsum hV
  go_region_held3 (fun w' => w'.cell? ⟨v13.heap.size, 0, none⟩ = some (.int .i64 p2) ∧ w'.cell? ⟨v13.heap.size, 1, none⟩ = some (.int .i64 sp) ∧ w'.cell? ⟨v13.heap.size, 2, none⟩ = some (.slice AU k cU) ∧ w'.cell? ⟨v9.heap.size, 0, none⟩ = some (.int .i64 p2) ∧ w'.cell? ⟨v9.heap.size, 1, none⟩ = some (.int .i64 sp) ∧ w'.cell? ⟨v9.heap.size, 2, none⟩ = some (.slice AB k cB) ∧ w'.cell? ⟨v11.heap.size, 0, none⟩ = some (.int .i64 st) ∧ w'.cell? ⟨v11.heap.size, 1, none⟩ = some (.int .i64 sp) ∧ w'.cell? ⟨v11.heap.size, 2, none⟩ = some (.slice AJ N cJ) ∧ w'.cell? ⟨v1.heap.size, 0, none⟩ = some (.int .i64 st) ∧ w'.cell? ⟨v1.heap.size, 1, none⟩ = some (.int .i64 sp) ∧ w'.cell? ⟨v1.heap.size, 2, none⟩ = some (.slice AA i cA))
    (exact KS.out _ (by repeat (first | exact Bel.rf | (with_reducible refine Bel.drwN ?_ _) | (with_reducible refine Bel.drw ?_) | (with_reducible refine Bel.al ?_ _) | (refine Bel.tr ?_ (by assumption)))))
    (first
      | (go_at_call 19; (with_reducible refine (SM.out _ (by repeat (first | exact Bel.rf | (with_reducible refine Bel.drwN ?_ _) | (with_reducible refine Bel.drw ?_) | (with_reducible refine Bel.al ?_ _) | (refine Bel.tr ?_ (by assumption))))).mono ?_); rintro e y1 ⟨rfl, hy1⟩)
      | (go_at_call 12; first
        | ((with_reducible refine (TJ.out _ (by repeat (first | exact Bel.rf | (with_reducible refine Bel.drwN ?_ _) | (with_reducible refine Bel.drw ?_) | (with_reducible refine Bel.al ?_ _) | (refine Bel.tr ?_ (by assumption))))).mono ?_); rintro e y2 ⟨Y2, z2, rfl, hy2⟩)
        | ((with_reducible refine (TA.out _ (by repeat (first | exact Bel.rf | (with_reducible refine Bel.drwN ?_ _) | (with_reducible refine Bel.drw ?_) | (with_reducible refine Bel.al ?_ _) | (refine Bel.tr ?_ (by assumption))))).mono ?_); rintro e y3 ⟨Y3, z3, rfl, hy3⟩)
        | ((with_reducible refine (TL.out _ (by repeat (first | exact Bel.rf | (with_reducible refine Bel.drwN ?_ _) | (with_reducible refine Bel.drw ?_) | (with_reducible refine Bel.al ?_ _) | (refine Bel.tr ?_ (by assumption))))).mono ?_); rintro e y4 ⟨Y4, z4, rfl, hy4⟩))
      | (go_at_call 11; (with_reducible refine (AW.out _).mono ?_); rintro e y5 ⟨rfl, hy5⟩))
  all_goals
    go_wp2
    go_ret
    exact ⟨rfl, (HB0.out.tr (HB14.out.tr (by repeat (first | exact Bel.rf | (with_reducible refine Bel.drwN ?_ _) | (with_reducible refine Bel.drw ?_) | (with_reducible refine Bel.al ?_ _) | (refine Bel.tr ?_ (by assumption)))))).bl⟩

set_option maxRecDepth 100000 in
theorem lifted (os : Os) (started : os.Started) (H : Type) (enc : TypeId × Value → H) :
    ReturnsInHanded {} Try.checked os 5 .any (Rows.seriesPartsSpec.pre6 enc Try.prog Try.f5 Rows.seriesPartsRow.domain false) (Rows.seriesPartsSpec.post enc Try.prog Try.f5 false true false false) := by
  refine returnsInHanded_of_change (C := Try.checked) own started (by kernel_rfl) Try.func5
    (ChangeSpec.witness6 (enc := enc) (C := Try.checked) false ⟨#[], #[.slice none 0 0, .int .u8 0, .int .u8 0, .int .u8 0], []⟩ 8 (by kernel_rfl) (by kernel_rfl) (by kernel_rfl) (by kernel_rfl)) ?_
  intro W base args ds gs before hval0 hW hcnd _
  have hval : ∀ (j : Nat) t v, Try.f5.params[j]? = some t → args[j]? = some v → Value.okWide Try.prog W .any base t v := hval0
  have hW' := hW
  obtain ⟨p, q, hA0, hV, rfl, hfz, hnd⟩ := hW
  have hA : DataW.TrodAll enc Try.prog W 0 (fun _ => true) true Try.f5.params.toList args.toList ds p := hA0
  rw [Try.params5] at hA hval
  obtain ⟨v0, vs0, d0, ds0, p0, q0, hargs, rfl, rfl, h0, r0⟩ := trodAll_cons hA
  obtain ⟨v1, vs1, d1, ds1, p1, q1, rfl, rfl, rfl, h1, r1⟩ := trodAll_cons r0
  obtain ⟨v2, vs2, d2, ds2, p2, q2, rfl, rfl, rfl, h2, r2⟩ := trodAll_cons r1
  obtain ⟨v3, vs3, d3, ds3, p3, q3, rfl, rfl, rfl, h3, r3⟩ := trodAll_cons r2
  obtain ⟨rfl, rfl, rfl⟩ := trodAll_nil r3
  obtain rfl : args = #[v0, v1, v2, v3] := by cases args; simp_all
  obtain ⟨rfl, rfl⟩ := trodVars_none hV
  obtain ⟨a0, len0, cap0, rfl⟩ := okWide_slice Try.underlying22 (hval 0 22 v0 rfl rfl)
  have k0 := h0
  have lt0 : ∀ x ∈ p0, x.block < W.heap.size := by obtain ⟨m, hm⟩ := k0; exact DataW.trod_lt m _ _ _ hm
  obtain ⟨z0, w0⟩ : ∃ zs, IsRow .i64 W a0 len0 cap0 zs := by
    obtain ⟨fuel, hf⟩ := h0
    rcases open_ints Try.underlying22 Try.underlying3 (by kernel_rfl) hf with ⟨hcs, _⟩ | ⟨x, l, c, zs, hcs, _, hl, hm, hz, _, hcell, hwz⟩
    · simp [Value.cells] at hcs
      obtain ⟨rfl, rfl, rfl⟩ := hcs
      exact ⟨[], .inl ⟨rfl, rfl, rfl, rfl⟩⟩
    · simp [Value.cells] at hcs
      obtain ⟨rfl, rfl, rfl⟩ := hcs
      exact ⟨zs, .inr ⟨_, rfl, hl, hm, by simpa using hz, hcell, hwz⟩⟩
  obtain ⟨a1, rfl, rfl, rfl, w1⟩ := open_int Try.underlying5 (hval 1 5 v1 rfl rfl) h1
  obtain ⟨a2, rfl, rfl, rfl, w2⟩ := open_int Try.underlying5 (hval 2 5 v2 rfl rfl) h2
  obtain ⟨a3, rfl, rfl, rfl, w3⟩ := open_int Try.underlying5 (hval 3 5 v3 rfl rfl) h3
  clear hA0 hval0
  refine (walk a0 len0 cap0 z0 a1 a2 a3 W w0 w1 w2 w3).mono fun e W' ⟨he, bel⟩ => ?_
  subst he
  exact ⟨_, rfl, _, _, _, [], _, [], hW', trodAll_mk1 (shut_bool Try.underlying4 _), (trodAll_cons_mk (Below.trod laidOut (by kernel_rfl) (of_decide_eq_true (by kernel_rfl)) k0 bel lt0) (trodAll_cons_mk (shut_int Try.underlying5 w1) (trodAll_cons_mk (shut_int Try.underlying5 w2) (trodAll_cons_mk (shut_int Try.underlying5 w3) trodAll_mk0)))), rfl, bel.frame _, fun h => by cases h⟩

theorem over : Rows.seriesPartsRow.holds Try.pinned (OpenSpec.ofChange Rows.seriesPartsSpec) :=
  OpenClaim.holds_of_wide 5 Try.f5 rfl rfl rfl rfl rfl rfl rfl ⟨rfl, rfl, rfl, rfl, rfl⟩ rfl rfl rfl rfl rfl (by kernel_rfl) Try.func5 (by kernel_rfl)
    (of_decide_eq_true (by kernel_rfl)) (by unfold Func.isWrapper; first | (rw [if_pos (by decide +kernel)]; kernel_rfl) | (rw [if_neg (by decide +kernel)]; exact ⟨rfl, rfl⟩))
    (fun os started H enc _ => lifted os started H enc)

theorem proved : Rows.SeriesPartsSaid := over
end Go.Proofs.Ythpmgadmefhfpaa.seriesParts
