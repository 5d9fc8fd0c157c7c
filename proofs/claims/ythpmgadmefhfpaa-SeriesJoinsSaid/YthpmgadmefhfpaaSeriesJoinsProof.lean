/- That the law SeriesJoins returns true for every input that can be read, and leaves its arguments as they were; no further condition. -/
import Derived.Test.YthpmgadmefhfpaaRows
import Derived.WalkKit
import Derived.ProofKit
import Derived.OpenShut
import Derived.Test.YthpmgadmefhfpaaWords
import Derived.Test.YthpmgadmefhfpaaSrcNew0
import Derived.Test.YthpmgadmefhfpaaSerM
import Derived.ShutString
import Derived.ChangeOld
import Derived.Below
namespace Go.Proofs.Ythpmgadmefhfpaa.seriesJoins
open Go.ChangeShapes Go.WideShapes Go.ChangeAt Go.RowKit Wo
open Go.ChangeMaps (open_string shut_string)
set_option linter.unusedVariables false

theorem own : ownKnob Try.prog.godebug = none := by kernel_rfl
theorem laidOut : laidOutB Try.prog = true := by kernel_rfl

/-- WHAT THE WALK IS TOLD OF A SLICE OF INTEGERS THAT CAME IN: it is nil; or it leads to a row of 'cap' cells, the numbers 'zs' (the first 'len' are its elements, the rest its spare room), each fitting its kind. -/
def IsRow (k : IntKind) (w : World) (a : Option Addr) (len cap : Nat) (zs : List Int) : Prop :=
  (a = none ∧ len = 0 ∧ cap = 0 ∧ zs = []) ∨
  ∃ x, a = some x ∧ len ≤ cap ∧ cap ≤ maxLen ∧ zs.length = cap ∧ (∀ i, i < zs.length → w.cell? (x.add i) = some (.int k (zs.getD i 0))) ∧ ∀ n ∈ zs, (Lit.int k n).wf = true

open Go.Proofs.Ythpmgadmefhfpaa.Se Go.Proofs.Ythpmgadmefhfpaa.Wi Go.Proofs.Ythpmgadmefhfpaa.Wo Go.Proofs.Ythpmgadmefhfpaa.Sr in
set_option maxHeartbeats 4000000 in
set_option maxRecDepth 100000 in
theorem walk (a0 : Option Addr) (len0 cap0 : Nat) (z0 : List Int) (a1 : Int) (a2 : Int) (w : World) (w0 : IsRow .i64 w a0 len0 cap0 z0) (w1 : (Lit.int .u8 a1).wf = true) (w2 : (Lit.int .u8 a2).wf = true) :
    Calls Try.prog 6 #[.slice a0 len0 cap0, .int .u8 a1, .int .u8 a2] w fun e w' => e = .returned (.bool true) ∧ Below w.heap.size w w' := by
  obtain ⟨i1a, i1b⟩ := bounds_u8 w1
  clear w1
  obtain ⟨i2a, i2b⟩ := bounds_u8 w2
  clear w2
  obtain ⟨x1, rfl⟩ := Int.eq_ofNat_of_zero_le i1a
  obtain ⟨R1, hR1⟩ : ∃ R : Nat, x1 % 9 = R := ⟨_, rfl⟩
  have hM1 : (x1 : Int).tmod 9 = (R1 : Int) := by rw [Int.tmod_eq_emod_of_nonneg (by omega)]; omega
  have hb1 : R1 < 9 := by rw [← hR1]; exact Nat.mod_lt _ (by decide)
  obtain ⟨x2, rfl⟩ := Int.eq_ofNat_of_zero_le i2a
  obtain ⟨R2, hR2⟩ : ∃ R : Nat, x2 % 9 = R := ⟨_, rfl⟩
  have hM2 : (x2 : Int).tmod 9 = (R2 : Int) := by rw [Int.tmod_eq_emod_of_nonneg (by omega)]; omega
  have hb2 : R2 < 9 := by rw [← hR2]; exact Nat.mod_lt _ (by decide)
  have R1i : (R1 : Int) < 9 := by omega
  have R2i : (R2 : Int) < 9 := by omega
  have AW : Hid (∀ W, Calls Try.prog 11 #[] W fun e w' => e = .returned (.bool true) ∧ Bel W w') := awake_any
  go_enter Try.func6, Try.ntmps6
  go_wp2_with fail
  go_at_call 8
  refine (new_any a0 len0 cap0 z0 w w0).mono ?_
  rintro e v1 ⟨g, rfl, hg, ho1, hb1⟩
  have HO1 := Lib.hid ho1
  have HB1 := Lib.hid hb1
  clear ho1 hb1 w0
  go_wp2_with fail
  go_at_call 9
  refine (series_any g 10 (by decide) _ HO1.out).mono ?_
  rintro e v2 ⟨sa, sp, A, n, c, LA, rfl, sa0, sa1, sp0, sp1, n10, hsv, hvs, hfr, ho, hc⟩
  have HO2 := Lib.hid ho
  have HC2 := Lib.hid hc
  have HVA := Lib.hid hvs
  have HSvA := Lib.hid hsv
  have HFA : Hid (∀ ad, A = some ad → ad.block ≠ g) := fun ad e => by have := hfr ad e; have := HO1.out.lt; omega
  have ni : (n : Int) ≤ 10 := by omega
  clear ho hc hvs hsv hfr
  go_wp2_with fail
  go_at_call 9
  refine (series_any g 10 (by decide) _ HO2.out).mono ?_
  rintro e v3 ⟨sb, spb, B, m, cb, LB, rfl, sb0, sb1, spb0, spb1, m10, hsv, hvs, hfr, ho, hc⟩
  have HO3 := Lib.hid ho
  have HC3 := Lib.hid hc
  have HVB := Lib.hid hvs
  have HSvB := Lib.hid hsv
  have HFB : Hid (∀ ad, B = some ad → ad.block ≠ g) := fun ad e => by have := hfr ad e; have := HO2.out.lt; omega
  have mi : (m : Int) ≤ 10 := by omega
  clear ho hc hvs hsv hfr
  go_wp2_with fail
  go_at_call 9
  refine (series_any g 10 (by decide) _ HO3.out).mono ?_
  rintro e v4 ⟨sc, spc, C, k, cc, LC, rfl, sc0, sc1, spc0, spc1, k10, hsv, hvs, hfr, ho, hc⟩
  have HO4 := Lib.hid ho
  have HC4 := Lib.hid hc
  have HVC := Lib.hid hvs
  have HSvC := Lib.hid hsv
  have HFC : Hid (∀ ad, C = some ad → ad.block ≠ g) := fun ad e => by have := hfr ad e; have := HO3.out.lt; omega
  have ki : (k : Int) ≤ 10 := by omega
  clear ho hc hvs hsv hfr
  have HB4 : Hid (Bel w v4) := Bel.ch (Bel.ch (Bel.ch HB1.out HC2.out hg) HC3.out hg) HC4.out hg
  have XA := Lib.hid ((HVA.out.ch HC3.out HFA.out).ch HC4.out HFA.out)
  have XB := Lib.hid (HVB.out.ch HC4.out HFB.out)
  obtain ⟨a8, ha8⟩ : ∃ b, v4.heap.size = b := ⟨_, rfl⟩
  have VA5 := Bk.nw v4 24 #[.int .i64 sa, .int .i64 sp, .slice A n c]
  have VB5 := Bk.nw (v4.alloc (.cells #[.int .i64 sa, .int .i64 sp, .slice A n c] 24)) 24 #[.int .i64 sb, .int .i64 spb, .slice B m cb]
  have VC5 := Bk.nw ((v4.alloc (.cells #[.int .i64 sa, .int .i64 sp, .slice A n c] 24)).alloc (.cells #[.int .i64 sb, .int .i64 spb, .slice B m cb] 24)) 24 #[.int .i64 sc, .int .i64 spc, .slice C k cc]
  simp only [World.size_alloc, ha8] at VA5 VB5 VC5
  have VA6 := Lib.hid ((VA5.al (.cells #[.int .i64 sb, .int .i64 spb, .slice B m cb] 24)).al (.cells #[.int .i64 sc, .int .i64 spc, .slice C k cc] 24))
  have VB6 := Lib.hid (VB5.al (.cells #[.int .i64 sc, .int .i64 spc, .slice C k cc] 24))
  have VC6 := Lib.hid VC5
  have HB5 : Hid (Bel v4 (((v4.alloc (.cells #[.int .i64 sa, .int .i64 sp, .slice A n c] 24)).alloc (.cells #[.int .i64 sb, .int .i64 spb, .slice B m cb] 24)).alloc (.cells #[.int .i64 sc, .int .i64 spc, .slice C k cc] 24))) := ((Bel.rf.al _).al _).al _
  have hsz : w.heap.size ≤ a8 := by rw [← ha8]; exact HB4.out.size
  obtain ⟨V5, hV5⟩ : ∃ V, (((v4.alloc (.cells #[.int .i64 sa, .int .i64 sp, .slice A n c] 24)).alloc (.cells #[.int .i64 sb, .int .i64 spb, .slice B m cb] 24)).alloc (.cells #[.int .i64 sc, .int .i64 spc, .slice C k cc] 24)) = V := ⟨_, rfl⟩
  rw [hV5] at VA6 VB6 VC6 HB5
  clear VA5 VB5 VC5
  have HA8 := Lib.hid ha8
  have HV5 := Lib.hid hV5
  clear ha8 hV5
  go_wp2_with fail
  rw [HV5.out, HA8.out]
  have a0 : V5.cell? ⟨a8, 0, none⟩ = some (.int .i64 sa) := VA6.out.cell 0
  have a1 : V5.cell? ⟨a8, 1, none⟩ = some (.int .i64 sp) := VA6.out.cell 1
  have a2 : V5.cell? ⟨a8, 2, none⟩ = some (.slice A n c) := VA6.out.cell 2
  have al := VA6.out.lt
  have b0 : V5.cell? ⟨a8 + 1, 0, none⟩ = some (.int .i64 sb) := VB6.out.cell 0
  have b1 : V5.cell? ⟨a8 + 1, 1, none⟩ = some (.int .i64 spb) := VB6.out.cell 1
  have b2 : V5.cell? ⟨a8 + 1, 2, none⟩ = some (.slice B m cb) := VB6.out.cell 2
  have bl := VB6.out.lt
  have c0 : V5.cell? ⟨a8 + 1 + 1, 0, none⟩ = some (.int .i64 sc) := VC6.out.cell 0
  have c1 : V5.cell? ⟨a8 + 1 + 1, 1, none⟩ = some (.int .i64 spc) := VC6.out.cell 1
  have c2 : V5.cell? ⟨a8 + 1 + 1, 2, none⟩ = some (.slice C k cc) := VC6.out.cell 2
  have cl := VC6.out.lt
  have bf := VB6.out.fr 1
  have cf := VC6.out.fr 1
  have hn1 : (⟨a8, 1, none⟩ : Addr).block ≠ (⟨a8 + 1, 1, none⟩ : Addr).block := by show a8 ≠ a8 + 1; omega
  have hn2 : (⟨a8, 1, none⟩ : Addr).block ≠ (⟨a8 + 1 + 1, 1, none⟩ : Addr).block := by show a8 ≠ a8 + 1 + 1; omega
  go_region_held3 (fun w' => w'.cell? ⟨a8, 1, none⟩ = some (.int .i64 sp))
    (repeat (first | exact a1 | exact hn1 | exact hn2 | (with_reducible refine kp_drwN ?_ _) | (with_reducible refine kp_drw ?_) | (with_reducible refine kp_far ?_ ?_ _)))
    (fail)
  have YA : Bk ((V5.setCell ⟨a8 + 1, 1, none⟩ (.int .i64 sp)).setCell ⟨a8 + 1 + 1, 1, none⟩ (.int .i64 sp)).drew a8 24 #[.int .i64 sa, .int .i64 sp, .slice A n c] := ((VA6.out.far hn1 _).far hn2 _).drw
  have YB : Bk ((V5.setCell ⟨a8 + 1, 1, none⟩ (.int .i64 sp)).setCell ⟨a8 + 1 + 1, 1, none⟩ (.int .i64 sp)).drew (a8 + 1) 24 #[.int .i64 sb, .int .i64 sp, .slice B m cb] := ((VB6.out.st 1 _).far (p := ⟨a8 + 1 + 1, 1, none⟩) (by show a8 + 1 ≠ a8 + 1 + 1; omega) _).drw
  have YC : Bk ((V5.setCell ⟨a8 + 1, 1, none⟩ (.int .i64 sp)).setCell ⟨a8 + 1 + 1, 1, none⟩ (.int .i64 sp)).drew (a8 + 1 + 1) 24 #[.int .i64 sc, .int .i64 sp, .slice C k cc] := ((VC6.out.far (p := ⟨a8 + 1, 1, none⟩) (by show a8 + 1 + 1 ≠ a8 + 1; omega) _).st 1 _).drw
  have HB6 : Hid (Bel v4 ((V5.setCell ⟨a8 + 1, 1, none⟩ (.int .i64 sp)).setCell ⟨a8 + 1 + 1, 1, none⟩ (.int .i64 sp)).drew) := ((HB5.out.st (p := ⟨a8 + 1, 1, none⟩) (by show v4.heap.size ≤ a8 + 1; rw [HA8.out]; omega) _).st (p := ⟨a8 + 1 + 1, 1, none⟩) (by show v4.heap.size ≤ a8 + 1 + 1; rw [HA8.out]; omega) _).drw
  obtain ⟨V6, hV6⟩ : ∃ V, ((V5.setCell ⟨a8 + 1, 1, none⟩ (.int .i64 sp)).setCell ⟨a8 + 1 + 1, 1, none⟩ (.int .i64 sp)).drew = V := ⟨_, rfl⟩
  rw [hV6] at YA YB YC HB6
  rw [hV6]
  clear a0 a1 a2 al b0 b1 b2 bl c0 c1 c2 cl bf cf hn1 hn2 hV6
  have ZA := Lib.hid YA
  have ZB := Lib.hid YB
  have ZC := Lib.hid YC
  clear YA YB YC
  obtain ⟨u1, hu1⟩ : ∃ u, n + R1 = u := ⟨_, rfl⟩
  obtain ⟨u2, hu2⟩ : ∃ u, m + R2 = u := ⟨_, rfl⟩
  have hu1i : (n : Int) + (R1 : Int) = (u1 : Int) := by omega
  have hu2i : (m : Int) + (R2 : Int) = (u2 : Int) := by omega
  obtain ⟨q1, hq1⟩ : ∃ q, sp * (u1 : Int) = q := ⟨_, rfl⟩
  obtain ⟨q2, hq2⟩ : ∃ q, sp * (u2 : Int) = q := ⟨_, rfl⟩
  have qb1 := sb_mul sp0 sp1 (show u1 ≤ 3000 by omega)
  have qb2 := sb_mul sp0 sp1 (show u2 ≤ 3000 by omega)
  rw [hq1] at qb1
  rw [hq2] at qb2
  obtain ⟨q10, q11⟩ := qb1
  obtain ⟨q20, q21⟩ := qb2
  obtain ⟨s2, hs2⟩ : ∃ s, sa + q1 = s := ⟨_, rfl⟩
  obtain ⟨s3, hs3⟩ : ∃ s, s2 + q2 = s := ⟨_, rfl⟩
  have e1 : sp * (u1 : Int) = sp * (n : Int) + sp * (R1 : Int) := by rw [← hu1i, Int.mul_add]
  have e2 : sp * (u2 : Int) = sp * (m : Int) + sp * (R2 : Int) := by rw [← hu2i, Int.mul_add]
  obtain ⟨N1, hN1⟩ : ∃ N, n + R1 + m = N := ⟨_, rfl⟩
  obtain ⟨N3, hN3⟩ : ∃ N, m + R2 + k = N := ⟨_, rfl⟩
  obtain ⟨N, hN⟩ : ∃ N, n + R1 + N3 = N := ⟨_, rfl⟩
  have e3 : sp * (N1 : Int) = sp * (n : Int) + sp * (R1 : Int) + sp * (m : Int) := by
    rw [← hN1, Int.natCast_add, Int.natCast_add, Int.mul_add, Int.mul_add]
  have HSA : Hid (Sb sa sp n) := ⟨sa0, by omega, sp0, sp1, by omega⟩
  have HSBb : Hid (Sb s2 sp m) := ⟨by omega, by omega, sp0, sp1, by omega⟩
  have HSCc : Hid (Sb s3 sp k) := ⟨by omega, by omega, sp0, sp1, by omega⟩
  have HSX : Hid (Sb sa sp N1) := ⟨sa0, by omega, sp0, sp1, by omega⟩
  have HSZ : Hid (Sb s2 sp N3) := ⟨by omega, by omega, sp0, sp1, by omega⟩
  have h12 : s2 = sa + sp * (n : Int) + sp * (R1 : Int) := by omega
  have h13 : s3 = sa + sp * (N1 : Int) + sp * (R2 : Int) := by omega
  have h23 : s3 = s2 + sp * (m : Int) + sp * (R2 : Int) := by omega
  obtain ⟨LX, hLX⟩ : ∃ X, LA ++ List.replicate R1 1073741824 ++ LB = X := ⟨_, rfl⟩
  obtain ⟨LZ, hLZ⟩ : ∃ X, LB ++ List.replicate R2 1073741824 ++ LC = X := ⟨_, rfl⟩
  obtain ⟨LW, hLW⟩ : ∃ X, LA ++ List.replicate R1 1073741824 ++ LZ = X := ⟨_, rfl⟩
  have hLY : LX ++ List.replicate R2 1073741824 ++ LC = LW := by rw [← hLX, ← hLW, ← hLZ, join_lists]
  have hNY : N1 + R2 + k = N := by omega
  have HSVX : Hid (Sv LX) := by rw [← hLX]; exact (HSvA.out.app (Sv.rep _)).app HSvB.out
  have HSVZ : Hid (Sv LZ) := by rw [← hLZ]; exact (HSvB.out.app (Sv.rep _)).app HSvC.out
  have JX : Hid (∀ W, Vs W A n c LA → Vs W B m cb LB → Calls Try.prog 18 #[.agg #[.int .i64 sa, .int .i64 sp, .slice A n c], .agg #[.int .i64 s2, .int .i64 sp, .slice B m cb]] W (SomeCut sa sp N1 LX W)) := fun W h h' => by
    have := join_any sa s2 sp A B n c m cb R1 LA LB HSA.out HSBb.out HSvA.out HSvB.out h12 (by omega) (by omega) W h h'
    rwa [hN1, hLX] at this
  have JY : Hid (∀ W X cx, Vs W X N1 cx LX → Vs W C k cc LC → Calls Try.prog 18 #[.agg #[.int .i64 sa, .int .i64 sp, .slice X N1 cx], .agg #[.int .i64 s3, .int .i64 sp, .slice C k cc]] W (SomeCut sa sp N LW W)) := fun W X cx h h' => by
    have := join_any sa s3 sp X C N1 cx k cc R2 LX LC HSX.out HSCc.out HSVX.out HSvC.out h13 (by omega) (by omega) W h h'
    rwa [hNY, hLY] at this
  have JZ : Hid (∀ W, Vs W B m cb LB → Vs W C k cc LC → Calls Try.prog 18 #[.agg #[.int .i64 s2, .int .i64 sp, .slice B m cb], .agg #[.int .i64 s3, .int .i64 sp, .slice C k cc]] W (SomeCut s2 sp N3 LZ W)) := fun W h h' => by
    have := join_any s2 s3 sp B C m cb k cc R2 LB LC HSBb.out HSCc.out HSvB.out HSvC.out h23 (by omega) (by omega) W h h'
    rwa [hN3, hLZ] at this
  have JW : Hid (∀ W X cx, Vs W A n c LA → Vs W X N3 cx LZ → Calls Try.prog 18 #[.agg #[.int .i64 sa, .int .i64 sp, .slice A n c], .agg #[.int .i64 s2, .int .i64 sp, .slice X N3 cx]] W (SomeCut sa sp N LW W)) := fun W X cx h h' => by
    have := join_any sa s2 sp A X n c N3 cx R1 LA LZ HSA.out HSZ.out HSvA.out HSVZ.out h12 (by omega) (by omega) W h h'
    rwa [hN, hLW] at this
  have Nb : N ≤ 100 := by omega
  have w1 : IntKind.i64.wrap q1 = q1 := IntWalk.i64_in _ (by omega)
  have w2 : IntKind.i64.wrap q2 = q2 := IntWalk.i64_in _ (by omega)
  have u1b : (u1 : Int) ≤ 20 := by omega
  have u2b : (u2 : Int) ≤ 20 := by omega
  have s2b : 0 ≤ s2 ∧ s2 ≤ 100000 := by omega
  obtain ⟨s20, s21⟩ := s2b
  have s3b : 0 ≤ s3 ∧ s3 ≤ 200000 := by omega
  obtain ⟨s30, s31⟩ := s3b
  clear e1 e2 e3 h12 h13 h23 hLX hLY hLZ hLW hN1 hN3 hN hNY hu1 hu2
  have a0 : V6.cell? ⟨a8, 0, none⟩ = some (.int .i64 sa) := ZA.out.cell 0
  have a1 : V6.cell? ⟨a8, 1, none⟩ = some (.int .i64 sp) := ZA.out.cell 1
  have a2 : V6.cell? ⟨a8, 2, none⟩ = some (.slice A n c) := ZA.out.cell 2
  have al := ZA.out.lt
  have b0 : V6.cell? ⟨a8 + 1, 0, none⟩ = some (.int .i64 sb) := ZB.out.cell 0
  have b1 : V6.cell? ⟨a8 + 1, 1, none⟩ = some (.int .i64 sp) := ZB.out.cell 1
  have b2 : V6.cell? ⟨a8 + 1, 2, none⟩ = some (.slice B m cb) := ZB.out.cell 2
  have bl := ZB.out.lt
  have c0 : V6.cell? ⟨a8 + 1 + 1, 0, none⟩ = some (.int .i64 sc) := ZC.out.cell 0
  have c1 : V6.cell? ⟨a8 + 1 + 1, 1, none⟩ = some (.int .i64 sp) := ZC.out.cell 1
  have c2 : V6.cell? ⟨a8 + 1 + 1, 2, none⟩ = some (.slice C k cc) := ZC.out.cell 2
  have cl := ZC.out.lt
  have bf := ZB.out.fr 0
  have cf := ZC.out.fr 0
  go_wp2_with fail
  have WA : Bk ((V6.setCell ⟨a8 + 1, 0, none⟩ (.int .i64 s2)).setCell ⟨a8 + 1 + 1, 0, none⟩ (.int .i64 s3)) a8 24 #[.int .i64 sa, .int .i64 sp, .slice A n c] := (ZA.out.far (p := ⟨a8 + 1, 0, none⟩) (by show a8 ≠ a8 + 1; omega) _).far (p := ⟨a8 + 1 + 1, 0, none⟩) (by show a8 ≠ a8 + 1 + 1; omega) _
  have WB : Bk ((V6.setCell ⟨a8 + 1, 0, none⟩ (.int .i64 s2)).setCell ⟨a8 + 1 + 1, 0, none⟩ (.int .i64 s3)) (a8 + 1) 24 #[.int .i64 s2, .int .i64 sp, .slice B m cb] := (ZB.out.st 0 _).far (p := ⟨a8 + 1 + 1, 0, none⟩) (by show a8 + 1 ≠ a8 + 1 + 1; omega) _
  have WC : Bk ((V6.setCell ⟨a8 + 1, 0, none⟩ (.int .i64 s2)).setCell ⟨a8 + 1 + 1, 0, none⟩ (.int .i64 s3)) (a8 + 1 + 1) 24 #[.int .i64 s3, .int .i64 sp, .slice C k cc] := (ZC.out.far (p := ⟨a8 + 1, 0, none⟩) (by show a8 + 1 + 1 ≠ a8 + 1; omega) _).st 0 _
  have HB7 : Hid (Bel v4 ((V6.setCell ⟨a8 + 1, 0, none⟩ (.int .i64 s2)).setCell ⟨a8 + 1 + 1, 0, none⟩ (.int .i64 s3))) := (HB6.out.st (p := ⟨a8 + 1, 0, none⟩) (by show v4.heap.size ≤ a8 + 1; rw [HA8.out]; omega) _).st (p := ⟨a8 + 1 + 1, 0, none⟩) (by show v4.heap.size ≤ a8 + 1 + 1; rw [HA8.out]; omega) _
  obtain ⟨V7, hV7⟩ : ∃ V, ((V6.setCell ⟨a8 + 1, 0, none⟩ (.int .i64 s2)).setCell ⟨a8 + 1 + 1, 0, none⟩ (.int .i64 s3)) = V := ⟨_, rfl⟩
  rw [hV7] at WA WB WC HB7
  rw [hV7]
  clear a0 a1 a2 al b0 b1 b2 bl c0 c1 c2 cl bf cf hV7
  have K7a := Lib.hid WA
  have K7b := Lib.hid WB
  have K7c := Lib.hid WC
  clear WA WB WC
  have XCc : Hid (Vs v4 C k cc LC) := HVC
  go_at_call 18
  refine (JX.out _ (XA.out.bel HB7.out) (XB.out.bel HB7.out)).mono ?_
  rintro e v8 ⟨AX, cX, rfl, hv, hb⟩
  have HBa : Hid (Bel V7 v8) := (by first | exact hb | exact Bel.rf.drw.tr hb | exact (Bel.rf.drwN _).tr hb)
  have HVx := Lib.hid hv
  have HB9 : Hid (Bel v4 (v8.alloc (.cells #[.int .i64 sa, .int .i64 sp, .slice AX N1 cX] 24))) := (HB7.out.tr HBa.out).al _
  have K9a := Lib.hid ((K7a.out.bel HBa.out).al (.cells #[.int .i64 sa, .int .i64 sp, .slice AX N1 cX] 24))
  have K9b := Lib.hid ((K7b.out.bel HBa.out).al (.cells #[.int .i64 sa, .int .i64 sp, .slice AX N1 cX] 24))
  have K9c := Lib.hid ((K7c.out.bel HBa.out).al (.cells #[.int .i64 sa, .int .i64 sp, .slice AX N1 cX] 24))
  have K9x := Lib.hid (Bk.nw v8 24 #[.int .i64 sa, .int .i64 sp, .slice AX N1 cX])
  have HVx9 := Lib.hid (hv.bel (Bel.rf.al (.cells #[.int .i64 sa, .int .i64 sp, .slice AX N1 cX] 24)))
  obtain ⟨V9, hV⟩ : ∃ V, v8.alloc (.cells #[.int .i64 sa, .int .i64 sp, .slice AX N1 cX] 24) = V := ⟨_, rfl⟩
  rw [hV] at K9a K9b K9c K9x HB9 HVx9
  clear hv hb HBa
  have x0 : V9.cell? ⟨v8.heap.size, 0, none⟩ = some (.int .i64 sa) := K9x.out.cell 0
  have x1 : V9.cell? ⟨v8.heap.size, 1, none⟩ = some (.int .i64 sp) := K9x.out.cell 1
  have x2 : V9.cell? ⟨v8.heap.size, 2, none⟩ = some (.slice AX N1 cX) := K9x.out.cell 2
  have xl := K9x.out.lt
  have c0 : V9.cell? ⟨a8 + 1 + 1, 0, none⟩ = some (.int .i64 s3) := K9c.out.cell 0
  have c1 : V9.cell? ⟨a8 + 1 + 1, 1, none⟩ = some (.int .i64 sp) := K9c.out.cell 1
  have c2 : V9.cell? ⟨a8 + 1 + 1, 2, none⟩ = some (.slice C k cc) := K9c.out.cell 2
  have cl := K9c.out.lt
  go_wp2_with fail
  (try rw [hV])
  go_wp2_with fail
  clear hV
  go_at_call 18
  refine (JY.out _ _ _ (by first | exact HVx9.out | exact HVx9.out.bel Bel.rf.drw | exact HVx9.out.bel (Bel.rf.drwN _)) (by first | exact XCc.out.bel HB9.out | exact XCc.out.bel HB9.out.drw | exact XCc.out.bel (HB9.out.drwN _))).mono ?_
  rintro e v10 ⟨AY, cY, rfl, hv, hb⟩
  have HBa : Hid (Bel V9 v10) := (by first | exact hb | exact Bel.rf.drw.tr hb | exact (Bel.rf.drwN _).tr hb)
  have HVy := Lib.hid hv
  have HB11 : Hid (Bel v4 (v10.alloc (.cells #[.int .i64 sa, .int .i64 sp, .slice AY N cY] 24))) := (HB9.out.tr HBa.out).al _
  have K11a := Lib.hid ((K9a.out.bel HBa.out).al (.cells #[.int .i64 sa, .int .i64 sp, .slice AY N cY] 24))
  have K11b := Lib.hid ((K9b.out.bel HBa.out).al (.cells #[.int .i64 sa, .int .i64 sp, .slice AY N cY] 24))
  have K11c := Lib.hid ((K9c.out.bel HBa.out).al (.cells #[.int .i64 sa, .int .i64 sp, .slice AY N cY] 24))
  have K11x := Lib.hid ((K9x.out.bel HBa.out).al (.cells #[.int .i64 sa, .int .i64 sp, .slice AY N cY] 24))
  have K11y := Lib.hid (Bk.nw v10 24 #[.int .i64 sa, .int .i64 sp, .slice AY N cY])
  have HVx11 := Lib.hid ((HVx9.out.bel HBa.out).bel (Bel.rf.al (.cells #[.int .i64 sa, .int .i64 sp, .slice AY N cY] 24)))
  have HVy11 := Lib.hid (hv.bel (Bel.rf.al (.cells #[.int .i64 sa, .int .i64 sp, .slice AY N cY] 24)))
  obtain ⟨V11, hV⟩ : ∃ V, v10.alloc (.cells #[.int .i64 sa, .int .i64 sp, .slice AY N cY] 24) = V := ⟨_, rfl⟩
  rw [hV] at K11a K11b K11c K11x K11y HB11 HVx11 HVy11
  clear hv hb HBa x0 x1 x2 xl c0 c1 c2 cl
  have b0 : V11.cell? ⟨a8 + 1, 0, none⟩ = some (.int .i64 s2) := K11b.out.cell 0
  have b1 : V11.cell? ⟨a8 + 1, 1, none⟩ = some (.int .i64 sp) := K11b.out.cell 1
  have b2 : V11.cell? ⟨a8 + 1, 2, none⟩ = some (.slice B m cb) := K11b.out.cell 2
  have bl := K11b.out.lt
  have c0 : V11.cell? ⟨a8 + 1 + 1, 0, none⟩ = some (.int .i64 s3) := K11c.out.cell 0
  have c1 : V11.cell? ⟨a8 + 1 + 1, 1, none⟩ = some (.int .i64 sp) := K11c.out.cell 1
  have c2 : V11.cell? ⟨a8 + 1 + 1, 2, none⟩ = some (.slice C k cc) := K11c.out.cell 2
  have cl := K11c.out.lt
  go_wp2_with fail
  (try rw [hV])
  go_wp2_with fail
  clear hV
  go_at_call 18
  refine (JZ.out _ (by first | exact XB.out.bel HB11.out | exact XB.out.bel HB11.out.drw | exact XB.out.bel (HB11.out.drwN _)) (by first | exact XCc.out.bel HB11.out | exact XCc.out.bel HB11.out.drw | exact XCc.out.bel (HB11.out.drwN _))).mono ?_
  rintro e v12 ⟨AZ, cZ, rfl, hv, hb⟩
  have HBa : Hid (Bel V11 v12) := (by first | exact hb | exact Bel.rf.drw.tr hb | exact (Bel.rf.drwN _).tr hb)
  have HVz := Lib.hid hv
  have HB13 : Hid (Bel v4 (v12.alloc (.cells #[.int .i64 s2, .int .i64 sp, .slice AZ N3 cZ] 24))) := (HB11.out.tr HBa.out).al _
  have K13a := Lib.hid ((K11a.out.bel HBa.out).al (.cells #[.int .i64 s2, .int .i64 sp, .slice AZ N3 cZ] 24))
  have K13b := Lib.hid ((K11b.out.bel HBa.out).al (.cells #[.int .i64 s2, .int .i64 sp, .slice AZ N3 cZ] 24))
  have K13c := Lib.hid ((K11c.out.bel HBa.out).al (.cells #[.int .i64 s2, .int .i64 sp, .slice AZ N3 cZ] 24))
  have K13x := Lib.hid ((K11x.out.bel HBa.out).al (.cells #[.int .i64 s2, .int .i64 sp, .slice AZ N3 cZ] 24))
  have K13y := Lib.hid ((K11y.out.bel HBa.out).al (.cells #[.int .i64 s2, .int .i64 sp, .slice AZ N3 cZ] 24))
  have K13z := Lib.hid (Bk.nw v12 24 #[.int .i64 s2, .int .i64 sp, .slice AZ N3 cZ])
  have HVx13 := Lib.hid ((HVx11.out.bel HBa.out).bel (Bel.rf.al (.cells #[.int .i64 s2, .int .i64 sp, .slice AZ N3 cZ] 24)))
  have HVy13 := Lib.hid ((HVy11.out.bel HBa.out).bel (Bel.rf.al (.cells #[.int .i64 s2, .int .i64 sp, .slice AZ N3 cZ] 24)))
  have HVz13 := Lib.hid (hv.bel (Bel.rf.al (.cells #[.int .i64 s2, .int .i64 sp, .slice AZ N3 cZ] 24)))
  obtain ⟨V13, hV⟩ : ∃ V, v12.alloc (.cells #[.int .i64 s2, .int .i64 sp, .slice AZ N3 cZ] 24) = V := ⟨_, rfl⟩
  rw [hV] at K13a K13b K13c K13x K13y K13z HB13 HVx13 HVy13 HVz13
  clear hv hb HBa b0 b1 b2 bl c0 c1 c2 cl
  have a0 : V13.cell? ⟨a8, 0, none⟩ = some (.int .i64 sa) := K13a.out.cell 0
  have a1 : V13.cell? ⟨a8, 1, none⟩ = some (.int .i64 sp) := K13a.out.cell 1
  have a2 : V13.cell? ⟨a8, 2, none⟩ = some (.slice A n c) := K13a.out.cell 2
  have al := K13a.out.lt
  have z0 : V13.cell? ⟨v12.heap.size, 0, none⟩ = some (.int .i64 s2) := K13z.out.cell 0
  have z1 : V13.cell? ⟨v12.heap.size, 1, none⟩ = some (.int .i64 sp) := K13z.out.cell 1
  have z2 : V13.cell? ⟨v12.heap.size, 2, none⟩ = some (.slice AZ N3 cZ) := K13z.out.cell 2
  have zl := K13z.out.lt
  go_wp2_with fail
  (try rw [hV])
  go_wp2_with fail
  clear hV
  go_at_call 18
  refine (JW.out _ _ _ (by first | exact XA.out.bel HB13.out | exact XA.out.bel HB13.out.drw | exact XA.out.bel (HB13.out.drwN _)) (by first | exact HVz13.out | exact HVz13.out.bel Bel.rf.drw | exact HVz13.out.bel (Bel.rf.drwN _))).mono ?_
  rintro e v14 ⟨AU, cU, rfl, hv, hb⟩
  have HBa : Hid (Bel V13 v14) := (by first | exact hb | exact Bel.rf.drw.tr hb | exact (Bel.rf.drwN _).tr hb)
  have HVu := Lib.hid hv
  have HB15 : Hid (Bel v4 (v14.alloc (.cells #[.int .i64 sa, .int .i64 sp, .slice AU N cU] 24))) := (HB13.out.tr HBa.out).al _
  have K15a := Lib.hid ((K13a.out.bel HBa.out).al (.cells #[.int .i64 sa, .int .i64 sp, .slice AU N cU] 24))
  have K15b := Lib.hid ((K13b.out.bel HBa.out).al (.cells #[.int .i64 sa, .int .i64 sp, .slice AU N cU] 24))
  have K15c := Lib.hid ((K13c.out.bel HBa.out).al (.cells #[.int .i64 sa, .int .i64 sp, .slice AU N cU] 24))
  have K15x := Lib.hid ((K13x.out.bel HBa.out).al (.cells #[.int .i64 sa, .int .i64 sp, .slice AU N cU] 24))
  have K15y := Lib.hid ((K13y.out.bel HBa.out).al (.cells #[.int .i64 sa, .int .i64 sp, .slice AU N cU] 24))
  have K15z := Lib.hid ((K13z.out.bel HBa.out).al (.cells #[.int .i64 sa, .int .i64 sp, .slice AU N cU] 24))
  have K15u := Lib.hid (Bk.nw v14 24 #[.int .i64 sa, .int .i64 sp, .slice AU N cU])
  have HVx15 := Lib.hid ((HVx13.out.bel HBa.out).bel (Bel.rf.al (.cells #[.int .i64 sa, .int .i64 sp, .slice AU N cU] 24)))
  have HVy15 := Lib.hid ((HVy13.out.bel HBa.out).bel (Bel.rf.al (.cells #[.int .i64 sa, .int .i64 sp, .slice AU N cU] 24)))
  have HVz15 := Lib.hid ((HVz13.out.bel HBa.out).bel (Bel.rf.al (.cells #[.int .i64 sa, .int .i64 sp, .slice AU N cU] 24)))
  have HVu15 := Lib.hid (hv.bel (Bel.rf.al (.cells #[.int .i64 sa, .int .i64 sp, .slice AU N cU] 24)))
  obtain ⟨V15, hV⟩ : ∃ V, v14.alloc (.cells #[.int .i64 sa, .int .i64 sp, .slice AU N cU] 24) = V := ⟨_, rfl⟩
  rw [hV] at K15a K15b K15c K15u K15x K15y K15z HB15 HVx15 HVy15 HVz15 HVu15
  clear hv hb HBa a0 a1 a2 al z0 z1 z2 zl
  have y0 : V15.cell? ⟨v10.heap.size, 0, none⟩ = some (.int .i64 sa) := K15y.out.cell 0
  have y1 : V15.cell? ⟨v10.heap.size, 1, none⟩ = some (.int .i64 sp) := K15y.out.cell 1
  have y2 : V15.cell? ⟨v10.heap.size, 2, none⟩ = some (.slice AY N cY) := K15y.out.cell 2
  have yl := K15y.out.lt
  have u0 : V15.cell? ⟨v14.heap.size, 0, none⟩ = some (.int .i64 sa) := K15u.out.cell 0
  have u1 : V15.cell? ⟨v14.heap.size, 1, none⟩ = some (.int .i64 sp) := K15u.out.cell 1
  have u2 : V15.cell? ⟨v14.heap.size, 2, none⟩ = some (.slice AU N cU) := K15u.out.cell 2
  have ul := K15u.out.lt
  go_wp2_with fail
  (try rw [hV])
  go_wp2_with fail
  clear hV
  go_at_call 19
  refine (same_yes sa sp AY AU cY cU N LW (by omega) _ (by first | exact HVy15.out.1 | exact HVy15.out.1.bel Bel.rf.drw | exact HVy15.out.1.bel (Bel.rf.drwN _)) (by first | exact HVu15.out.1 | exact HVu15.out.1.bel Bel.rf.drw | exact HVu15.out.1.bel (Bel.rf.drwN _))).mono ?_
  rintro e v16 ⟨rfl, hb⟩
  have HB16 : Hid (Bel v4 v16) := HB15.out.tr (by first | exact hb | exact Bel.rf.drw.tr hb | exact (Bel.rf.drwN _).tr hb)
  clear hb
  go_wp2_with fail
  go_at_call 11
  refine (AW.out _).mono ?_
  rintro e v17 ⟨rfl, hb⟩
  have HB17 : Hid (Bel v4 v17) := HB16.out.tr (by first | exact hb | exact Bel.rf.drw.tr hb | exact (Bel.rf.drwN _).tr hb)
  go_wp2
  go_ret
  exact ⟨rfl, (HB4.out.tr HB17.out).bl⟩

set_option maxRecDepth 100000 in
theorem lifted (os : Os) (started : os.Started) (H : Type) (enc : TypeId × Value → H) :
    ReturnsInHanded {} Try.checked os 6 .any (Rows.seriesJoinsSpec.pre6 enc Try.prog Try.f6 Rows.seriesJoinsRow.domain false) (Rows.seriesJoinsSpec.post enc Try.prog Try.f6 false true false false) := by
  refine returnsInHanded_of_change (C := Try.checked) own started (by kernel_rfl) Try.func6
    (ChangeSpec.witness6 (enc := enc) (C := Try.checked) false ⟨#[], #[.slice none 0 0, .int .u8 0, .int .u8 0], []⟩ 8 (by kernel_rfl) (by kernel_rfl) (by kernel_rfl) (by kernel_rfl)) ?_
  intro W base args ds gs before hval0 hW hcnd _
  have hval : ∀ (j : Nat) t v, Try.f6.params[j]? = some t → args[j]? = some v → Value.okWide Try.prog W .any base t v := hval0
  have hW' := hW
  obtain ⟨p, q, hA0, hV, rfl, hfz, hnd⟩ := hW
  have hA : DataW.TrodAll enc Try.prog W 0 (fun _ => true) true Try.f6.params.toList args.toList ds p := hA0
  rw [Try.params6] at hA hval
  obtain ⟨v0, vs0, d0, ds0, p0, q0, hargs, rfl, rfl, h0, r0⟩ := trodAll_cons hA
  obtain ⟨v1, vs1, d1, ds1, p1, q1, rfl, rfl, rfl, h1, r1⟩ := trodAll_cons r0
  obtain ⟨v2, vs2, d2, ds2, p2, q2, rfl, rfl, rfl, h2, r2⟩ := trodAll_cons r1
  obtain ⟨rfl, rfl, rfl⟩ := trodAll_nil r2
  obtain rfl : args = #[v0, v1, v2] := by cases args; simp_all
  obtain ⟨rfl, rfl⟩ := trodVars_none hV
  obtain ⟨a0, len0, cap0, rfl⟩ := okWide_slice Try.underlying22 (hval 0 22 v0 rfl rfl)
  have k0 := h0
  have lt0 : ∀ x ∈ p0, x.block < W.heap.size := by obtain ⟨m, hm⟩ := k0; exact DataW.trod_lt m _ _ _ hm
  obtain ⟨z0, w0⟩ : ∃ zs, IsRow .i64 W a0 len0 cap0 zs := by
    obtain ⟨fuel, hf⟩ := h0
    rcases open_ints Try.underlying22 Try.underlying3 (by kernel_rfl) hf with ⟨hcs, _⟩ | ⟨x, l, c, zs, hcs, _, hl, hm, hz, _, hcell, hwz⟩
    · simp [Value.cells] at hcs
      obtain ⟨rfl, rfl, rfl⟩ := hcs
      exact ⟨[], .inl ⟨rfl, rfl, rfl, rfl⟩⟩
    · simp [Value.cells] at hcs
      obtain ⟨rfl, rfl, rfl⟩ := hcs
      exact ⟨zs, .inr ⟨_, rfl, hl, hm, by simpa using hz, hcell, hwz⟩⟩
  obtain ⟨a1, rfl, rfl, rfl, w1⟩ := open_int Try.underlying5 (hval 1 5 v1 rfl rfl) h1
  obtain ⟨a2, rfl, rfl, rfl, w2⟩ := open_int Try.underlying5 (hval 2 5 v2 rfl rfl) h2
  clear hA0 hval0
  refine (walk a0 len0 cap0 z0 a1 a2 W w0 w1 w2).mono fun e W' ⟨he, bel⟩ => ?_
  subst he
  exact ⟨_, rfl, _, _, _, [], _, [], hW', trodAll_mk1 (shut_bool Try.underlying4 _), (trodAll_cons_mk (Below.trod laidOut (by kernel_rfl) (of_decide_eq_true (by kernel_rfl)) k0 bel lt0) (trodAll_cons_mk (shut_int Try.underlying5 w1) (trodAll_cons_mk (shut_int Try.underlying5 w2) trodAll_mk0))), rfl, bel.frame _, fun h => by cases h⟩

theorem over : Rows.seriesJoinsRow.holds Try.pinned (OpenSpec.ofChange Rows.seriesJoinsSpec) :=
  OpenClaim.holds_of_wide 6 Try.f6 rfl rfl rfl rfl rfl rfl rfl ⟨rfl, rfl, rfl, rfl, rfl⟩ rfl rfl rfl rfl rfl (by kernel_rfl) Try.func6 (by kernel_rfl)
    (of_decide_eq_true (by kernel_rfl)) (by unfold Func.isWrapper; first | (rw [if_pos (by decide +kernel)]; kernel_rfl) | (rw [if_neg (by decide +kernel)]; exact ⟨rfl, rfl⟩))
    (fun os started H enc _ => lifted os started H enc)

theorem proved : Rows.SeriesJoinsSaid := over
end Go.Proofs.Ythpmgadmefhfpaa.seriesJoins
