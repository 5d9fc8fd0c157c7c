/- That the law WindowParts returns true for every input that can be read, and leaves its arguments as they were; no further condition. -/
import Derived.Test.YtiomiohdeghpiaaRows
import Derived.WalkKit
import Derived.ProofKit
import Derived.OpenShut
import Derived.Test.YtiomiohdeghpiaaWords
import Derived.Test.YtiomiohdeghpiaaSrcNew0
import Derived.Test.YtiomiohdeghpiaaWinVar
import Derived.ShutString
import Derived.ChangeOld
import Derived.Below
namespace Go.Proofs.Ytiomiohdeghpiaa.windowParts
open Go.ChangeShapes Go.WideShapes Go.ChangeAt Go.RowKit Wo
open Go.ChangeMaps (open_string shut_string)
set_option linter.unusedVariables false

theorem own : ownKnob Try.prog.godebug = none := by kernel_rfl
theorem laidOut : laidOutB Try.prog = true := by kernel_rfl

/-- WHAT THE WALK IS TOLD OF A SLICE OF INTEGERS THAT CAME IN: it is nil; or it leads to a row of 'cap' cells, the numbers 'zs' (the first 'len' are its elements, the rest its spare room), each fitting its kind. -/
def IsRow (k : IntKind) (w : World) (a : Option Addr) (len cap : Nat) (zs : List Int) : Prop :=
  (a = none ∧ len = 0 ∧ cap = 0 ∧ zs = []) ∨
  ∃ x, a = some x ∧ len ≤ cap ∧ cap ≤ maxLen ∧ zs.length = cap ∧ (∀ i, i < zs.length → w.cell? (x.add i) = some (.int k (zs.getD i 0))) ∧ ∀ n ∈ zs, (Lit.int k n).wf = true

open Go.Proofs.Ytiomiohdeghpiaa.Wi Go.Proofs.Ytiomiohdeghpiaa.Wo Go.Proofs.Ytiomiohdeghpiaa.Sr in
set_option maxHeartbeats 16000000 in
set_option maxRecDepth 100000 in
theorem walk (a0 : Option Addr) (len0 cap0 : Nat) (z0 : List Int) (a1 : Int) (a2 : Int) (w : World) (w0 : IsRow .i64 w a0 len0 cap0 z0) (w1 : (Lit.int .u8 a1).wf = true) (w2 : (Lit.int .u8 a2).wf = true) :
    Calls Try.prog 8 #[.slice a0 len0 cap0, .int .u8 a1, .int .u8 a2] w fun e w' => e = .returned (.bool true) ∧ Below w.heap.size w w' := by
  have b1 := bounds_u8 w1
  have b2 := bounds_u8 w2
  obtain ⟨i1, i2⟩ := b1
  obtain ⟨i3, i4⟩ := b2
  have HW := Lib.hid (And.intro w1 w2)
  clear w1 w2
  have AW : Hid (∀ W, Calls Try.prog 9 #[] W fun e w' => e = .returned (.bool true) ∧ Bel W w') := awake_any
  go_enter Try.func8, Try.ntmps8
  go_wp2_with fail
  go_at_call 10
  refine (new_any a0 len0 cap0 z0 w w0).mono ?_
  rintro e v1 ⟨g, rfl, hg, ho1, hb1⟩
  have HO1 := Lib.hid ho1
  have HB1 := Lib.hid hb1
  clear ho1 hb1 w0
  go_wp2_with fail
  go_at_call 17
  refine (range_any g 2 60 (by decide) (by decide) (by decide) _ HO1.out).mono ?_
  rintro e v2 ⟨n0, rfl, hn0, hn1, ho2, hc2⟩
  obtain ⟨n, rfl⟩ := Int.eq_ofNat_of_zero_le (show 0 ≤ n0 by omega)
  have HO2 := Lib.hid ho2
  have HB2 : Hid (Bel w v2) := Bel.ch HB1.out hc2 hg
  clear ho2 hc2
  go_wp2_with fail
  go_at_call 11
  refine (list_any g n (by omega) _ HO2.out).mono ?_
  rintro e v3 ⟨v, L, rfl, hown, hL, hS, ho3, hc3⟩
  have HB3 : Hid (Bel w v3) := Bel.ch HB2.out hc3 hg
  have HL := Lib.hid hL
  have HS := Lib.hid hS
  obtain ⟨h, c, rfl, hcap, hh⟩ := row_form hown (by omega)
  have HZ := Lib.hid (own_zi hown hL)
  have HOW := Lib.hid hown
  clear hown hL hS ho3 hc3
  have nz : (n : Int) ≤ 60 := by omega
  have nn : ((n : Int) - 1) ≠ 0 := by omega
  have x0 := Int.emod_nonneg a1 (b := (n : Int) - 1) (by omega)
  have x1 := Int.emod_lt_of_pos a1 (b := (n : Int) - 1) (by omega)
  have xe : a1.tmod ((n : Int) - 1) = a1 % ((n : Int) - 1) := Int.tmod_eq_emod_of_nonneg i1
  obtain ⟨kr, kr2⟩ := Int.eq_ofNat_of_zero_le x0
  rw [kr2] at xe x1
  obtain ⟨k, xk⟩ : ∃ k, 1 + kr = k := ⟨_, rfl⟩
  have ki : 1 + (kr : Int) = (k : Int) := by omega
  have k0 : 1 ≤ (k : Int) := by omega
  have k1 : (k : Int) ≤ (n : Int) - 1 := by omega
  have ke := xe
  clear x0 x1 kr2 xk xe
  have nj : ((n : Int) - (k : Int)) ≠ 0 := by omega
  have x0 := Int.emod_nonneg a2 (b := (n : Int) - (k : Int)) (by omega)
  have x1 := Int.emod_lt_of_pos a2 (b := (n : Int) - (k : Int)) (by omega)
  have xe : a2.tmod ((n : Int) - (k : Int)) = a2 % ((n : Int) - (k : Int)) := Int.tmod_eq_emod_of_nonneg i3
  obtain ⟨jr, jr2⟩ := Int.eq_ofNat_of_zero_le x0
  rw [jr2] at xe x1
  obtain ⟨j, xk⟩ : ∃ j, 1 + jr = j := ⟨_, rfl⟩
  have ji : 1 + (jr : Int) = (j : Int) := by omega
  have j0 : 1 ≤ (j : Int) := by omega
  have j1 : (j : Int) ≤ (n : Int) - (k : Int) := by omega
  have je := xe
  clear x0 x1 jr2 xk xe
  obtain ⟨m, hm⟩ : ∃ m, k + j = m := ⟨_, rfl⟩
  have mi : (k : Int) + (j : Int) = (m : Int) := by omega
  have mn : m ≤ n := by omega
  obtain ⟨A, hA⟩ : ∃ P, (L.drop 0).take k = P := ⟨_, rfl⟩
  obtain ⟨B, hB⟩ : ∃ P, (L.drop k).take j = P := ⟨_, rfl⟩
  have hC : (L.drop 0).take m = A ++ B := by rw [← hA, ← hB, ← hm]; simp [List.take_add]
  have lA : A.length = k := by rw [← hA]; simp; have := HL.out; omega
  have lB : B.length = j := by rw [← hB]; simp; have := HL.out; omega
  have sA : Sam A := by rw [← hA]; exact (HS.out.drop 0).take k
  have sB : Sam B := by rw [← hB]; exact (HS.out.drop k).take j
  have sC : Sam (A ++ B) := by rw [← hC]; exact (HS.out.drop 0).take m
  have lC : (A ++ B).length = m := by rw [List.length_append]; omega
  obtain ⟨xA, eA⟩ : ∃ y, su ix A = y := ⟨_, rfl⟩
  obtain ⟨yA, fA⟩ : ∃ y, su sq A = y := ⟨_, rfl⟩
  obtain ⟨vA, gA⟩ : ∃ y, vr A = y := ⟨_, rfl⟩
  obtain ⟨xB, eB⟩ : ∃ y, su ix B = y := ⟨_, rfl⟩
  obtain ⟨yB, fB⟩ : ∃ y, su sq B = y := ⟨_, rfl⟩
  obtain ⟨vB, gB⟩ : ∃ y, vr B = y := ⟨_, rfl⟩
  obtain ⟨vC, gC⟩ : ∃ y, vr (A ++ B) = y := ⟨_, rfl⟩
  obtain ⟨xC, eC⟩ : ∃ y, su ix (A ++ B) = y := ⟨_, rfl⟩
  obtain ⟨yC, fC⟩ : ∃ y, su sq (A ++ B) = y := ⟨_, rfl⟩
  have ex : xA + xB = xC := by rw [← eA, ← eB, ← eC, su_append]
  have ey : yA + yB = yC := by rw [← fA, ← fB, ← fC, su_append]
  have VA : Hid (∀ W, Calls Try.prog 24 #[.agg #[.int .i64 (k : Int), .int .i64 xA, .int .i64 yA]] W fun e w' => e = .returned (.int .i64 vA) ∧ Bel W w') := var_of A sA k lA (by omega) (by omega) xA yA vA eA fA gA
  have VB : Hid (∀ W, Calls Try.prog 24 #[.agg #[.int .i64 (j : Int), .int .i64 xB, .int .i64 yB]] W fun e w' => e = .returned (.int .i64 vB) ∧ Bel W w') := var_of B sB j lB (by omega) (by omega) xB yB vB eB fB gB
  have VC : Hid (∀ W, Calls Try.prog 24 #[.agg #[.int .i64 (m : Int), .int .i64 xC, .int .i64 yC]] W fun e w' => e = .returned (.int .i64 vC) ∧ Bel W w') := var_of (A ++ B) sC m lC (by omega) (by omega) xC yC vC eC fC gC
  have hge := vr_parts A B
  rw [gA, gB, gC] at hge
  have q1 := vr_in sA (by omega)
  have q2 := vr_in sB (by omega)
  rw [gA] at q1
  rw [gB] at q2
  have q3 := su_in sA
  have q4 := su_in sB
  have q5 := sq_su_in sA
  have q6 := sq_su_in sB
  rw [eA, lA] at q3
  rw [eB, lB] at q4
  rw [fA, lA] at q5
  rw [fB, lB] at q6
  obtain ⟨q10, q11⟩ := q1
  obtain ⟨q20, q21⟩ := q2
  obtain ⟨q30, q31⟩ := q3
  obtain ⟨q40, q41⟩ := q4
  obtain ⟨q50, q51⟩ := q5
  obtain ⟨q60, q61⟩ := q6
  have wm : IntKind.i64.wrap (m : Int) = (m : Int) := IntWalk.i64_in _ (by omega)
  have wx : IntKind.i64.wrap xC = xC := IntWalk.i64_in _ (by omega)
  have wy : IntKind.i64.wrap yC = yC := IntWalk.i64_in _ (by omega)
  have wv : IntKind.i64.wrap (vA + vB) = vA + vB := IntWalk.i64_in _ (by omega)
  have wm2 : IntKind.i64.wrap ((k : Int) + (j : Int)) = (m : Int) := by rw [mi]; exact wm
  have wx2 : IntKind.i64.wrap (xA + xB) = xC := by rw [ex]; exact wx
  have wy2 : IntKind.i64.wrap (yA + yB) = yC := by rw [ey]; exact wy
  clear q10 q11 q20 q21 q30 q31 q40 q41 q50 q51 q60 q61 ex ey
  have HE := Lib.hid (And.intro hA (And.intro hB (And.intro hC (And.intro eA (And.intro fA (And.intro eB (And.intro fB (And.intro eC fC))))))))
  have HIN : Hid (k + j ≤ n ∧ 0 + k ≤ n ∧ 0 + m ≤ n ∧ 1 ≤ k ∧ 1 ≤ j ∧ 1 ≤ m) := ⟨by omega, by omega, by omega, by omega, by omega, by omega⟩
  clear hA hB hC lA lB sA sB sC lC eA fA gA eB fB gB gC eC fC hm
  go_wp2_with fail
  go_at_call 14
  refine (of_ok _ _ n L (by omega) HS.out _ HZ.out).mono ?_
  rintro e v4 ⟨g1, c1, g2, c2, rfl, hz1, hz2, hb4⟩
  have HB4 := Lib.hid (HB3.out.tr hb4)
  have HZ1 := Lib.hid hz1
  have HZ2 := Lib.hid hz2
  have HSU : Hid (Bk (v4.alloc (.cells #[.slice (some ⟨g1, 0, none⟩) (n + 1) c1, .slice (some ⟨g2, 0, none⟩) (n + 1) c2] 24)) v4.heap.size 24 #[.slice (some ⟨g1, 0, none⟩) (n + 1) c1, .slice (some ⟨g2, 0, none⟩) (n + 1) c2]) := Bk.nw _ _ _
  have HZ4 := Lib.hid (HZ.out.bel hb4)
  clear hb4 hz1 hz2 HZ HOW
  go_wp2_with fail
  go_at_call 22
  refine (stats_ok g1 c1 g2 c2 n 0 k L (by omega) HL.out HIN.out.2.1 HIN.out.2.2.2.1 HS.out _ (HZ1.out.bel (Bel.rf.al _)) (HZ2.out.bel (Bel.rf.al _))).mono ?_
  rintro e v5 ⟨rfl, hb5⟩
  rw [HE.out.1, HE.out.2.2.2.1, HE.out.2.2.2.2.1]
  have HU5 := Lib.hid (HSU.out.bel hb5)
  have u0 : v5.cell? ⟨v4.heap.size, 0, none⟩ = some (.slice (some ⟨g1, 0, none⟩) (n + 1) c1) := HU5.out.cell 0
  have u1 : v5.cell? ⟨v4.heap.size, 1, none⟩ = some (.slice (some ⟨g2, 0, none⟩) (n + 1) c2) := HU5.out.cell 1
  have u2 : ∀ o, (v5.alloc o).cell? ⟨v4.heap.size, 0, none⟩ = some (.slice (some ⟨g1, 0, none⟩) (n + 1) c1) := fun o => kp_al u0 o
  have u3 : ∀ o, (v5.alloc o).cell? ⟨v4.heap.size, 1, none⟩ = some (.slice (some ⟨g2, 0, none⟩) (n + 1) c2) := fun o => kp_al u1 o
  have HB5 : Hid (Bel w v5) := (HB4.out.al _).tr hb5
  have HB45 : Hid (Bel v4 v5) := (Bel.rf.al _).tr hb5
  clear hb5
  go_wp2_with fail
  go_at_call 22
  refine (stats_ok g1 c1 g2 c2 n k j L (by omega) HL.out HIN.out.1 HIN.out.2.2.2.2.1 HS.out _ (HZ1.out.bel (HB45.out.al _)) (HZ2.out.bel (HB45.out.al _))).mono ?_
  rintro e v6 ⟨rfl, hb6⟩
  rw [HE.out.2.1, HE.out.2.2.2.2.2.1, HE.out.2.2.2.2.2.2.1]
  have HU6 := Lib.hid ((HU5.out.al _).bel hb6)
  have HA6 : Hid (Bk v6 v5.heap.size 26 #[.int .i64 (k : Int), .int .i64 xA, .int .i64 yA]) := (Bk.nw _ _ _).bel hb6
  have HB6 : Hid (Bel w v6) := (HB5.out.al _).tr hb6
  have HB46 : Hid (Bel v4 v6) := (HB45.out.al _).tr hb6
  clear hb6 u0 u1 u2 u3
  have u0 : v6.cell? ⟨v4.heap.size, 0, none⟩ = some (.slice (some ⟨g1, 0, none⟩) (n + 1) c1) := HU6.out.cell 0
  have u1 : v6.cell? ⟨v4.heap.size, 1, none⟩ = some (.slice (some ⟨g2, 0, none⟩) (n + 1) c2) := HU6.out.cell 1
  have u2 : ∀ o, (v6.alloc o).cell? ⟨v4.heap.size, 0, none⟩ = some (.slice (some ⟨g1, 0, none⟩) (n + 1) c1) := fun o => kp_al u0 o
  have u3 : ∀ o, (v6.alloc o).cell? ⟨v4.heap.size, 1, none⟩ = some (.slice (some ⟨g2, 0, none⟩) (n + 1) c2) := fun o => kp_al u1 o
  go_wp2_with fail
  go_at_call 22
  refine (stats_ok g1 c1 g2 c2 n 0 m L (by omega) HL.out HIN.out.2.2.1 HIN.out.2.2.2.2.2 HS.out _ (HZ1.out.bel (HB46.out.al _)) (HZ2.out.bel (HB46.out.al _))).mono ?_
  rintro e v7 ⟨rfl, hb7⟩
  rw [HE.out.2.2.1, HE.out.2.2.2.2.2.2.2.1, HE.out.2.2.2.2.2.2.2.2]
  have HA7 := Lib.hid ((HA6.out.al _).bel hb7)
  have HB7' : Hid (Bk v7 v6.heap.size 26 #[.int .i64 (j : Int), .int .i64 xB, .int .i64 yB]) := (Bk.nw _ _ _).bel hb7
  have HB7 : Hid (Bel w v7) := (HB6.out.al _).tr hb7
  clear hb7 u0 u1 u2 u3
  have HA8 := Lib.hid (HA7.out.al (.cells #[.int .i64 (m : Int), .int .i64 xC, .int .i64 yC] 26))
  have HB8 := Lib.hid (HB7'.out.al (.cells #[.int .i64 (m : Int), .int .i64 xC, .int .i64 yC] 26))
  have HC8 := Lib.hid (Bk.nw v7 26 #[.int .i64 (m : Int), .int .i64 xC, .int .i64 yC])
  have ca0 : (v7.alloc (.cells #[.int .i64 (m : Int), .int .i64 xC, .int .i64 yC] 26)).cell? ⟨v5.heap.size, 0, none⟩ = some (.int .i64 (k : Int)) := HA8.out.cell 0
  have ca1 : (v7.alloc (.cells #[.int .i64 (m : Int), .int .i64 xC, .int .i64 yC] 26)).cell? ⟨v5.heap.size, 1, none⟩ = some (.int .i64 xA) := HA8.out.cell 1
  have ca2 : (v7.alloc (.cells #[.int .i64 (m : Int), .int .i64 xC, .int .i64 yC] 26)).cell? ⟨v5.heap.size, 2, none⟩ = some (.int .i64 yA) := HA8.out.cell 2
  have cb0 : (v7.alloc (.cells #[.int .i64 (m : Int), .int .i64 xC, .int .i64 yC] 26)).cell? ⟨v6.heap.size, 0, none⟩ = some (.int .i64 (j : Int)) := HB8.out.cell 0
  have cb1 : (v7.alloc (.cells #[.int .i64 (m : Int), .int .i64 xC, .int .i64 yC] 26)).cell? ⟨v6.heap.size, 1, none⟩ = some (.int .i64 xB) := HB8.out.cell 1
  have cb2 : (v7.alloc (.cells #[.int .i64 (m : Int), .int .i64 xC, .int .i64 yC] 26)).cell? ⟨v6.heap.size, 2, none⟩ = some (.int .i64 yB) := HB8.out.cell 2
  have cd0 : (v7.alloc (.cells #[.int .i64 (m : Int), .int .i64 xC, .int .i64 yC] 26)).cell? ⟨v7.heap.size, 0, none⟩ = some (.int .i64 (m : Int)) := HC8.out.cell 0
  have cd1 : (v7.alloc (.cells #[.int .i64 (m : Int), .int .i64 xC, .int .i64 yC] 26)).cell? ⟨v7.heap.size, 1, none⟩ = some (.int .i64 xC) := HC8.out.cell 1
  have cd2 : (v7.alloc (.cells #[.int .i64 (m : Int), .int .i64 xC, .int .i64 yC] 26)).cell? ⟨v7.heap.size, 2, none⟩ = some (.int .i64 yC) := HC8.out.cell 2
  clear HZ1 HZ2 HSU HU5 HU6 HZ4
  go_wp2_with fail
  go_region_held3 (fun w' => w'.cell? ⟨v5.heap.size, 0, none⟩ = some (.int .i64 (k : Int)) ∧ w'.cell? ⟨v5.heap.size, 1, none⟩ = some (.int .i64 xA) ∧ w'.cell? ⟨v5.heap.size, 2, none⟩ = some (.int .i64 yA) ∧ w'.cell? ⟨v6.heap.size, 0, none⟩ = some (.int .i64 (j : Int)) ∧ w'.cell? ⟨v6.heap.size, 1, none⟩ = some (.int .i64 xB) ∧ w'.cell? ⟨v6.heap.size, 2, none⟩ = some (.int .i64 yB) ∧ w'.cell? ⟨v7.heap.size, 0, none⟩ = some (.int .i64 (m : Int)) ∧ w'.cell? ⟨v7.heap.size, 1, none⟩ = some (.int .i64 xC) ∧ w'.cell? ⟨v7.heap.size, 2, none⟩ = some (.int .i64 yC))
    ((refine ⟨?_, ?_, ?_, ?_, ?_, ?_, ?_, ?_, ?_⟩) <;> (repeat (first | exact ca0 | exact ca1 | exact ca2 | exact cb0 | exact cb1 | exact cb2 | exact cd0 | exact cd1 | exact cd2 | (with_reducible refine kp_al ?_ _) | (with_reducible refine kp_drwN ?_ _) | (with_reducible refine kp_drw ?_) | (refine Bel.kp (by assumption) ?_))))
    (first
      | (go_at_call 24; first
          | ((with_reducible refine (VC.out _).mono ?_); rintro r p1 ⟨rfl, h1⟩)
          | ((with_reducible refine (VA.out _).mono ?_); rintro r p2 ⟨rfl, h2⟩)
          | ((with_reducible refine (VB.out _).mono ?_); rintro r p3 ⟨rfl, h3⟩))
      | (go_at_call 9; (with_reducible refine (AW.out _).mono ?_); rintro r p4 ⟨rfl, h4⟩))
  all_goals
    go_wp2
    go_ret
    have HX : Bel w p4 := (by repeat (first | exact HB7.out | (with_reducible refine Bel.drwN ?_ _) | (with_reducible refine Bel.drw ?_) | (with_reducible refine Bel.al ?_ _) | refine Bel.tr ?_ (by assumption)))
    exact ⟨rfl, by first | exact HX.bl | exact (HX.drwN _).bl | exact HX.drw.bl⟩

set_option maxRecDepth 100000 in
theorem lifted (os : Os) (started : os.Started) (H : Type) (enc : TypeId × Value → H) :
    ReturnsInHanded {} Try.checked os 8 .any (Rows.windowPartsSpec.pre6 enc Try.prog Try.f8 Rows.windowPartsRow.domain false) (Rows.windowPartsSpec.post enc Try.prog Try.f8 false true false false) := by
  refine returnsInHanded_of_change (C := Try.checked) own started (by kernel_rfl) Try.func8
    (ChangeSpec.witness6 (enc := enc) (C := Try.checked) false ⟨#[], #[.slice none 0 0, .int .u8 0, .int .u8 0], []⟩ 8 (by kernel_rfl) (by kernel_rfl) (by kernel_rfl) (by kernel_rfl)) ?_
  intro W base args ds gs before hval0 hW hcnd _
  have hval : ∀ (j : Nat) t v, Try.f8.params[j]? = some t → args[j]? = some v → Value.okWide Try.prog W .any base t v := hval0
  have hW' := hW
  obtain ⟨p, q, hA0, hV, rfl, hfz, hnd⟩ := hW
  have hA : DataW.TrodAll enc Try.prog W 0 (fun _ => true) true Try.f8.params.toList args.toList ds p := hA0
  rw [Try.params8] at hA hval
  obtain ⟨v0, vs0, d0, ds0, p0, q0, hargs, rfl, rfl, h0, r0⟩ := trodAll_cons hA
  obtain ⟨v1, vs1, d1, ds1, p1, q1, rfl, rfl, rfl, h1, r1⟩ := trodAll_cons r0
  obtain ⟨v2, vs2, d2, ds2, p2, q2, rfl, rfl, rfl, h2, r2⟩ := trodAll_cons r1
  obtain ⟨rfl, rfl, rfl⟩ := trodAll_nil r2
  obtain rfl : args = #[v0, v1, v2] := by cases args; simp_all
  obtain ⟨rfl, rfl⟩ := trodVars_none hV
  obtain ⟨a0, len0, cap0, rfl⟩ := okWide_slice Try.underlying22 (hval 0 22 v0 rfl rfl)
  have k0 := h0
  have lt0 : ∀ x ∈ p0, x.block < W.heap.size := by obtain ⟨m, hm⟩ := k0; exact DataW.trod_lt m _ _ _ hm
  obtain ⟨z0, w0⟩ : ∃ zs, IsRow .i64 W a0 len0 cap0 zs := by
    obtain ⟨fuel, hf⟩ := h0
    rcases open_ints Try.underlying22 Try.underlying3 (by kernel_rfl) hf with ⟨hcs, _⟩ | ⟨x, l, c, zs, hcs, _, hl, hm, hz, _, hcell, hwz⟩
    · simp [Value.cells] at hcs
      obtain ⟨rfl, rfl, rfl⟩ := hcs
      exact ⟨[], .inl ⟨rfl, rfl, rfl, rfl⟩⟩
    · simp [Value.cells] at hcs
      obtain ⟨rfl, rfl, rfl⟩ := hcs
      exact ⟨zs, .inr ⟨_, rfl, hl, hm, by simpa using hz, hcell, hwz⟩⟩
  obtain ⟨a1, rfl, rfl, rfl, w1⟩ := open_int Try.underlying5 (hval 1 5 v1 rfl rfl) h1
  obtain ⟨a2, rfl, rfl, rfl, w2⟩ := open_int Try.underlying5 (hval 2 5 v2 rfl rfl) h2
  clear hA0 hval0
  refine (walk a0 len0 cap0 z0 a1 a2 W w0 w1 w2).mono fun e W' ⟨he, bel⟩ => ?_
  subst he
  exact ⟨_, rfl, _, _, _, [], _, [], hW', trodAll_mk1 (shut_bool Try.underlying4 _), (trodAll_cons_mk (Below.trod laidOut (by kernel_rfl) (of_decide_eq_true (by kernel_rfl)) k0 bel lt0) (trodAll_cons_mk (shut_int Try.underlying5 w1) (trodAll_cons_mk (shut_int Try.underlying5 w2) trodAll_mk0))), rfl, bel.frame _, fun h => by cases h⟩

theorem over : Rows.windowPartsRow.holds Try.pinned (OpenSpec.ofChange Rows.windowPartsSpec) :=
  OpenClaim.holds_of_wide 8 Try.f8 rfl rfl rfl rfl rfl rfl rfl ⟨rfl, rfl, rfl, rfl, rfl⟩ rfl rfl rfl rfl rfl (by kernel_rfl) Try.func8 (by kernel_rfl)
    (of_decide_eq_true (by kernel_rfl)) (by unfold Func.isWrapper; first | (rw [if_pos (by decide +kernel)]; kernel_rfl) | (rw [if_neg (by decide +kernel)]; exact ⟨rfl, rfl⟩))
    (fun os started H enc _ => lifted os started H enc)

theorem proved : Rows.WindowPartsSaid := over
end Go.Proofs.Ytiomiohdeghpiaa.windowParts
