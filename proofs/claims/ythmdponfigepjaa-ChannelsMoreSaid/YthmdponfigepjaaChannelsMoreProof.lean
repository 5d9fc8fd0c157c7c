/- That the law ChannelsMore returns true for every input that can be read, and leaves its arguments as they were; no further condition. -/
import Derived.Test.YthmdponfigepjaaRows
import Derived.WalkKit
import Derived.ProofKit
import Derived.OpenShut
import Derived.Test.YthmdponfigepjaaWords
import Derived.Test.YthmdponfigepjaaSrcNew0
import Derived.Test.YthmdponfigepjaaChZ
import Derived.Test.YthmdponfigepjaaChEs
import Derived.Test.YthmdponfigepjaaChG
import Derived.Test.YthmdponfigepjaaRef01
import Derived.ShutString
import Derived.ChangeOld
import Derived.Below
namespace Go.Proofs.Ythmdponfigepjaa.channelsMore
open Go.ChangeShapes Go.WideShapes Go.ChangeAt Go.RowKit Wo
open Go.ChangeMaps (open_string shut_string)
set_option linter.unusedVariables false

theorem own : ownKnob Try.prog.godebug = none := by kernel_rfl
theorem laidOut : laidOutB Try.prog = true := by kernel_rfl

/-- WHAT THE WALK IS TOLD OF A SLICE OF INTEGERS THAT CAME IN: it is nil; or it leads to a row of 'cap' cells, the numbers 'zs' (the first 'len' are its elements, the rest its spare room), each fitting its kind. -/
def IsRow (k : IntKind) (w : World) (a : Option Addr) (len cap : Nat) (zs : List Int) : Prop :=
  (a = none ∧ len = 0 ∧ cap = 0 ∧ zs = []) ∨
  ∃ x, a = some x ∧ len ≤ cap ∧ cap ≤ maxLen ∧ zs.length = cap ∧ (∀ i, i < zs.length → w.cell? (x.add i) = some (.int k (zs.getD i 0))) ∧ ∀ n ∈ zs, (Lit.int k n).wf = true

open Go.Proofs.Ythmdponfigepjaa.Ch Go.Proofs.Ythmdponfigepjaa.Wi Go.Proofs.Ythmdponfigepjaa.Wo Go.Proofs.Ythmdponfigepjaa.Sr Go.Proofs.Ythmdponfigepjaa.Ra in
set_option maxHeartbeats 8000000 in
set_option maxRecDepth 100000 in
theorem walk (a0 : Option Addr) (len0 cap0 : Nat) (z0 : List Int) (w : World) (w0 : IsRow .i64 w a0 len0 cap0 z0) :
    Calls Try.prog 6 #[.slice a0 len0 cap0] w fun e w' => e = .returned (.bool true) ∧ Below w.heap.size w w' := by
  have AW : Hid (∀ W, Calls Try.prog 23 #[] W fun e w' => e = .returned (.bool true) ∧ Bel W w') := awake_any
  go_enter Try.func6, Try.ntmps6
  go_wp2_with fail
  go_at_call 9
  refine (new_any a0 len0 cap0 z0 w w0).mono ?_
  rintro e v1 ⟨q0, rfl, hq, ho1, hb1⟩
  have HO := Lib.hid ho1
  have HBa : Hid (Bel w v1) := hb1
  clear ho1 hb1
  go_wp2_with fail
  go_at_call 18
  refine (bundles_any q0 _ HO.out).mono ?_
  rintro e v2 ⟨g1, g2, c1, c2, q, n, m, As, Bs, cs, ds, Ls, Ms, k, rfl, q1, q4, qc1, qc2, n1, n2, m1, m2, k0, k1, k2, k3, hX, hY, hL, hM, hc2, ⟨x0, hx0⟩, ⟨y0, hy0⟩⟩
  have HBb : Hid (Bel w v2) := Bel.ch HBa.out hc2 (by have := hq; omega)
  have SS : ∀ c, c < q → Sam (Ls c) ∧ Sam (Ms c) := fun c hc => ⟨(hX.2 c hc).2.2, (hY.2 c hc).2.2⟩
  have SL : ∀ c, c < q → Sam (Ls c) ∧ Sam (Ms c) ∧ (Ls c).length = n ∧ (Ms c).length = m := fun c hc => ⟨(SS c hc).1, (SS c hc).2, (hX.2 c hc).2.1.1, (hY.2 c hc).2.1.1⟩
  obtain ⟨r, hr, r1, rq, rr⟩ : ∃ r : Nat, max (1 : Int) ((q : Int) - 1) = (r : Int) ∧ 1 ≤ r ∧ r ≤ q ∧ (r = q ∨ r + 1 = q) := ⟨max 1 (q - 1), by omega, by omega, by omega, by omega⟩
  have Dq : Hid (∀ W, Bel v2 W → _) := fun W hW => apart_ok g1 g2 q n m c1 c2 As Bs cs ds Ls Ms k q1 q4 n1 n2 m1 m2 k0 k1 k2 k3 W (hX.bel hW) (hY.bel hW)
  have Tq : Hid (∀ W, Bel v2 W → _) := fun W hW => together_ok g1 g2 q n m c1 c2 As Bs cs ds Ls Ms k q1 q4 n1 n2 m1 m2 k0 k1 k2 k3 W (hX.bel hW) (hY.bel hW)
  have Gq : Hid (n = m → ∀ W, Bel v2 W → Calls Try.prog 24 #[.slice (some ⟨g1, 0, none⟩) q c1, .slice (some ⟨g2, 0, none⟩) q c2] W fun e w' => e = .returned (.tuple #[.agg #[.int .i64 (gs Ls Ms q).1, .int .i64 (gs Ls Ms q).2], .int .i64 0]) ∧ Bel W w') := fun e W hW => by
    subst e
    exact greatest_ok g1 g2 q n c1 c2 As Bs cs ds Ls Ms q1 q4 n1 n2 W (hX.bel hW) (hY.bel hW)
  have Dr : Hid (∀ W, Bel v2 W → _) := fun W hW => apart_ok g1 g2 r n m c1 c2 As Bs cs ds Ls Ms k r1 (by omega) n1 n2 m1 m2 k0 k1 k2 k3 W ((hX.le rq).bel hW) ((hY.le rq).bel hW)
  have Tr : Hid (∀ W, Bel v2 W → _) := fun W hW => together_ok g1 g2 r n m c1 c2 As Bs cs ds Ls Ms k r1 (by omega) n1 n2 m1 m2 k0 k1 k2 k3 W ((hX.le rq).bel hW) ((hY.le rq).bel hW)
  have Gr : Hid (n = m → ∀ W, Bel v2 W → Calls Try.prog 24 #[.slice (some ⟨g1, 0, none⟩) r c1, .slice (some ⟨g2, 0, none⟩) r c2] W fun e w' => e = .returned (.tuple #[.agg #[.int .i64 (gs Ls Ms r).1, .int .i64 (gs Ls Ms r).2], .int .i64 0]) ∧ Bel W w') := fun e W hW => by
    subst e
    exact greatest_ok g1 g2 r n c1 c2 As Bs cs ds Ls Ms r1 (by omega) n1 n2 W ((hX.le rq).bel hW) ((hY.le rq).bel hW)
  have hA : aps k n m Ls Ms r ≤ aps k n m Ls Ms q := by
    rcases rr with rfl | rfl
    · exact Int.le_refl _
    · exact aps_more r (SS r (by omega))
  have hT : wg (fs Ls Ms r) k n m ≤ wg (fs Ls Ms q) k n m := by
    rcases rr with rfl | rfl
    · exact Int.le_refl _
    · exact tog_more r (SS r (by omega))
  have hG : n = m → RP (gs Ls Ms r) ∧ RP (gs Ls Ms q) ∧ (gs Ls Ms r).1 * (gs Ls Ms q).2 ≤ (gs Ls Ms q).1 * (gs Ls Ms r).2 := fun e => by
    subst e
    refine ⟨gs_rv n2 r (fun c hc => SL c (by omega)), gs_rv n2 q SL, ?_⟩
    rcases rr with rfl | rfl
    · exact Int.le_refl _
    · exact mxr_ge _ _
  have CM : Hid (n = m → ∃ z : Int, z ≤ 0 ∧ ∀ W, Calls Try.prog 14 #[.agg #[.int .i64 (gs Ls Ms r).1, .int .i64 (gs Ls Ms r).2], .agg #[.int .i64 (gs Ls Ms q).1, .int .i64 (gs Ls Ms q).2]] W fun e w' => e = .returned (.int .i64 z) ∧ Bel W w') := fun e =>
    ⟨_, cmpI_le (hG e).2.2, rcmp_ok _ _ _ _ (hG e).1 (hG e).2.1⟩
  obtain ⟨ca, za, sa⟩ := hX.2 0 q1
  obtain ⟨cb, zb, sb⟩ := hY.2 0 q1
  have KS : Hid (∀ W, Bel v2 W → W.cell? ⟨g1, 0, none⟩ = some (.slice (As 0) n (cs 0)) ∧ W.cell? ⟨g2, 0, none⟩ = some (.slice (Bs 0) m (ds 0))) := fun W h => ⟨h.kp ca, h.kp cb⟩
  obtain ⟨a, ha⟩ : ∃ a, aps k n m Ls Ms r = a := ⟨_, rfl⟩
  obtain ⟨b, hb⟩ : ∃ a, aps k n m Ls Ms q = a := ⟨_, rfl⟩
  obtain ⟨c, hc⟩ : ∃ a, wg (fs Ls Ms r) k n m = a := ⟨_, rfl⟩
  obtain ⟨d, hd⟩ : ∃ a, wg (fs Ls Ms q) k n m = a := ⟨_, rfl⟩
  obtain ⟨G1, hG1⟩ : ∃ a, gs Ls Ms r = a := ⟨_, rfl⟩
  obtain ⟨G2, hG2⟩ : ∃ a, gs Ls Ms q = a := ⟨_, rfl⟩
  rw [ha] at Dr hA
  rw [hb] at Dq hA
  rw [hc] at Tr hT
  rw [hd] at Tq hT
  rw [hG1] at Gr CM
  rw [hG2] at Gq CM
  obtain ⟨U1, U2⟩ := G1
  obtain ⟨V1, V2⟩ := G2
  have HALL := Lib.hid (And.intro ha (And.intro hb (And.intro hc hd)))
  have i3 : (0 : Int) < (q : Int) := by omega
  have i5 : 0 < q := q1
  have i6 : ((0 : Int) < (q : Int)) = True := eq_true i3
  have i7 : (0 < q) = True := eq_true i5
  have i8 : (0 : Int) ≤ (r : Int) := by omega
  have i9 : (r : Int) ≤ (c1 : Int) := by omega
  have i10 : (r : Int) ≤ (c2 : Int) := by omega
  have wq : IntKind.i64.wrap ((q : Int) - 1) = (q : Int) - 1 := IntWalk.i64_in _ ⟨by omega, by omega⟩
  have nab : ¬ b < a := by omega
  have ncd : ¬ d < c := by omega
  clear ha hb hc hd hG1 hG2 hx0 hy0 SS SL hG ca cb za zb sa sb hX hY hL hM hc2 w0 rr rq
  go_wp2_with fail
  · have e : (q : Int) - 1 = (r : Int) := by omega
    rw [e]
    clear e
    go_region_held3 (fun _ => True)
      (trivial)
      ((go_at_call 19; refine (Dr.out _ (by repeat (first | with_reducible exact Bel.rf | with_reducible exact Bel.rf | (with_reducible refine Bel.drwN ?_ _) | (with_reducible refine Bel.drw ?_) | (with_reducible refine Bel.al ?_ _) | (refine Bel.tr ?_ (by assumption))))).mono ?_; rintro r v3 ⟨rfl, hv3⟩))
    all_goals
      have HBv3 : Hid (Bel v2 v3) := (by repeat (first | with_reducible exact Bel.rf | with_reducible exact Bel.rf | (with_reducible refine Bel.drwN ?_ _) | (with_reducible refine Bel.drw ?_) | (with_reducible refine Bel.al ?_ _) | (refine Bel.tr ?_ (by assumption))))
      clear hv3
      go_wp2_with fail
      go_at_call 19
      refine (Dq.out _ (by repeat (first | with_reducible exact HBv3.out | with_reducible exact Bel.rf | (with_reducible refine Bel.drwN ?_ _) | (with_reducible refine Bel.drw ?_) | (with_reducible refine Bel.al ?_ _) | (refine Bel.tr ?_ (by assumption))))).mono ?_
      rintro e v4 ⟨rfl, hb⟩
      have HBv4 : Hid (Bel v2 v4) := Bel.tr (by repeat (first | with_reducible exact HBv3.out | with_reducible exact Bel.rf | (with_reducible refine Bel.drwN ?_ _) | (with_reducible refine Bel.drw ?_) | (with_reducible refine Bel.al ?_ _) | (refine Bel.tr ?_ (by assumption)))) hb
      clear hb
      go_wp2_with fail
      go_region_held3 (fun _ => True)
        (trivial)
        ((go_at_call 20; refine (Tr.out _ (by repeat (first | with_reducible exact HBv4.out | with_reducible exact Bel.rf | (with_reducible refine Bel.drwN ?_ _) | (with_reducible refine Bel.drw ?_) | (with_reducible refine Bel.al ?_ _) | (refine Bel.tr ?_ (by assumption))))).mono ?_; rintro r v5 ⟨rfl, hv5⟩))
      all_goals
        have HBv5 : Hid (Bel v2 v5) := (by repeat (first | with_reducible exact HBv4.out | with_reducible exact Bel.rf | (with_reducible refine Bel.drwN ?_ _) | (with_reducible refine Bel.drw ?_) | (with_reducible refine Bel.al ?_ _) | (refine Bel.tr ?_ (by assumption))))
        clear hv5
        go_wp2_with fail
        go_at_call 20
        refine (Tq.out _ (by repeat (first | with_reducible exact HBv5.out | with_reducible exact Bel.rf | (with_reducible refine Bel.drwN ?_ _) | (with_reducible refine Bel.drw ?_) | (with_reducible refine Bel.al ?_ _) | (refine Bel.tr ?_ (by assumption))))).mono ?_
        rintro e v6 ⟨rfl, hb⟩
        have HBv6 : Hid (Bel v2 v6) := Bel.tr (by repeat (first | with_reducible exact HBv5.out | with_reducible exact Bel.rf | (with_reducible refine Bel.drwN ?_ _) | (with_reducible refine Bel.drw ?_) | (with_reducible refine Bel.al ?_ _) | (refine Bel.tr ?_ (by assumption)))) hb
        clear hb
        rcases (show n = m ∨ n ≠ m by omega) with rfl | hnm
        · obtain ⟨kk1, kk2⟩ := KS.out _ HBv6.out
          have Gr' := Lib.hid (Gr.out rfl)
          have Gq' := Lib.hid (Gq.out rfl)
          obtain ⟨z, hz, hC⟩ := CM.out rfl
          have CM' := Lib.hid hC
          clear hC
          clear Dr Dq Tr Tq Gr Gq CM
          go_wp2_with fail
          go_quiet (fail)
          go_upto_region 10 with fail
          go_cut [15, 16] (fun sa sb wx => ∃ (b : Nat) (W : World), W = wx ∧ sa = .pointer (some ⟨b, 0, none⟩) ∧ sb = .int .i64 0 ∧ v6.heap.size ≤ b ∧ Bk wx b 28 #[.int .i64 U1, .int .i64 U2] ∧ Bel v6 wx)
          case first =>
            go_region_held3 (fun _ => True)
              (trivial)
              ((go_at_call 24; refine (Gr'.out _ (Bel.tr HBv6.out (by repeat (first | with_reducible exact Bel.rf | (with_reducible refine Bel.drwN ?_ _) | (with_reducible refine Bel.drw ?_) | (with_reducible refine Bel.al ?_ _) | (refine Bel.tr ?_ (by assumption)))))).mono ?_; rintro r s4 ⟨rfl, h4⟩; have hz4 : v6.heap.size ≤ s4.heap.size := (Bel.tr (by repeat (first | with_reducible exact Bel.rf | (with_reducible refine Bel.drwN ?_ _) | (with_reducible refine Bel.drw ?_) | (with_reducible refine Bel.al ?_ _) | (refine Bel.tr ?_ (by assumption)))) h4).size; first | (have B3 : Bk s4 v6.heap.size 28 #[.int .i64 0, .int .i64 0] := Bk.bel (Bk.nw v6 28 #[.int .i64 0, .int .i64 0]) h4; have q0 : s4.cell? ⟨v6.heap.size, 0, none⟩ = some (.int .i64 0) := B3.cell 0; have q1 : s4.cell? ⟨v6.heap.size, 1, none⟩ = some (.int .i64 0) := B3.cell 1; have q2 := B3.fr 0; have q3 := B3.fr 1; have HB3K := Lib.hid B3; clear B3) | (have B3 : Bk s4 v6.heap.size 28 #[.int .i64 0, .int .i64 0] := Bk.bel (Bk.drw (Bk.nw v6 28 #[.int .i64 0, .int .i64 0])) h4; have q0 : s4.cell? ⟨v6.heap.size, 0, none⟩ = some (.int .i64 0) := B3.cell 0; have q1 : s4.cell? ⟨v6.heap.size, 1, none⟩ = some (.int .i64 0) := B3.cell 1; have q2 := B3.fr 0; have q3 := B3.fr 1; have HB3K := Lib.hid B3; clear B3) | (have B3 : Bk s4 v6.heap.size 28 #[.int .i64 0, .int .i64 0] := Bk.bel (Bk.drwN (Bk.nw v6 28 #[.int .i64 0, .int .i64 0]) _) h4; have q0 : s4.cell? ⟨v6.heap.size, 0, none⟩ = some (.int .i64 0) := B3.cell 0; have q1 : s4.cell? ⟨v6.heap.size, 1, none⟩ = some (.int .i64 0) := B3.cell 1; have q2 := B3.fr 0; have q3 := B3.fr 1; have HB3K := Lib.hid B3; clear B3) | (have B3 : Bk s4 v6.heap.size 28 #[.int .i64 0, .int .i64 0] := Bk.bel (Bk.nw v6.drew 28 #[.int .i64 0, .int .i64 0]) h4; have q0 : s4.cell? ⟨v6.heap.size, 0, none⟩ = some (.int .i64 0) := B3.cell 0; have q1 : s4.cell? ⟨v6.heap.size, 1, none⟩ = some (.int .i64 0) := B3.cell 1; have q2 := B3.fr 0; have q3 := B3.fr 1; have HB3K := Lib.hid B3; clear B3) | (have B3 : Bk s4 v6.heap.size 28 #[.int .i64 0, .int .i64 0] := Bk.bel (Bk.drw (Bk.nw v6.drew 28 #[.int .i64 0, .int .i64 0])) h4; have q0 : s4.cell? ⟨v6.heap.size, 0, none⟩ = some (.int .i64 0) := B3.cell 0; have q1 : s4.cell? ⟨v6.heap.size, 1, none⟩ = some (.int .i64 0) := B3.cell 1; have q2 := B3.fr 0; have q3 := B3.fr 1; have HB3K := Lib.hid B3; clear B3) | (have B3 : Bk s4 v6.heap.size 28 #[.int .i64 0, .int .i64 0] := Bk.bel (Bk.drwN (Bk.nw v6.drew 28 #[.int .i64 0, .int .i64 0]) _) h4; have q0 : s4.cell? ⟨v6.heap.size, 0, none⟩ = some (.int .i64 0) := B3.cell 0; have q1 : s4.cell? ⟨v6.heap.size, 1, none⟩ = some (.int .i64 0) := B3.cell 1; have q2 := B3.fr 0; have q3 := B3.fr 1; have HB3K := Lib.hid B3; clear B3) | (have B3 : Bk s4 v6.heap.size 28 #[.int .i64 0, .int .i64 0] := Bk.bel (Bk.nw (v6.drewN _) 28 #[.int .i64 0, .int .i64 0]) h4; have q0 : s4.cell? ⟨v6.heap.size, 0, none⟩ = some (.int .i64 0) := B3.cell 0; have q1 : s4.cell? ⟨v6.heap.size, 1, none⟩ = some (.int .i64 0) := B3.cell 1; have q2 := B3.fr 0; have q3 := B3.fr 1; have HB3K := Lib.hid B3; clear B3) | (have B3 : Bk s4 v6.heap.size 28 #[.int .i64 0, .int .i64 0] := Bk.bel (Bk.drw (Bk.nw (v6.drewN _) 28 #[.int .i64 0, .int .i64 0])) h4; have q0 : s4.cell? ⟨v6.heap.size, 0, none⟩ = some (.int .i64 0) := B3.cell 0; have q1 : s4.cell? ⟨v6.heap.size, 1, none⟩ = some (.int .i64 0) := B3.cell 1; have q2 := B3.fr 0; have q3 := B3.fr 1; have HB3K := Lib.hid B3; clear B3) | (have B3 : Bk s4 v6.heap.size 28 #[.int .i64 0, .int .i64 0] := Bk.bel (Bk.drwN (Bk.nw (v6.drewN _) 28 #[.int .i64 0, .int .i64 0]) _) h4; have q0 : s4.cell? ⟨v6.heap.size, 0, none⟩ = some (.int .i64 0) := B3.cell 0; have q1 : s4.cell? ⟨v6.heap.size, 1, none⟩ = some (.int .i64 0) := B3.cell 1; have q2 := B3.fr 0; have q3 := B3.fr 1; have HB3K := Lib.hid B3; clear B3) | (have B3 : Bk s4 v6.heap.size 28 #[.int .i64 0, .int .i64 0] := Bk.bel (Bk.nw (v6.drewN _).drew 28 #[.int .i64 0, .int .i64 0]) h4; have q0 : s4.cell? ⟨v6.heap.size, 0, none⟩ = some (.int .i64 0) := B3.cell 0; have q1 : s4.cell? ⟨v6.heap.size, 1, none⟩ = some (.int .i64 0) := B3.cell 1; have q2 := B3.fr 0; have q3 := B3.fr 1; have HB3K := Lib.hid B3; clear B3) | (have B3 : Bk s4 v6.heap.size 28 #[.int .i64 0, .int .i64 0] := Bk.bel (Bk.drw (Bk.nw (v6.drewN _).drew 28 #[.int .i64 0, .int .i64 0])) h4; have q0 : s4.cell? ⟨v6.heap.size, 0, none⟩ = some (.int .i64 0) := B3.cell 0; have q1 : s4.cell? ⟨v6.heap.size, 1, none⟩ = some (.int .i64 0) := B3.cell 1; have q2 := B3.fr 0; have q3 := B3.fr 1; have HB3K := Lib.hid B3; clear B3) | (have B3 : Bk s4 v6.heap.size 28 #[.int .i64 0, .int .i64 0] := Bk.bel (Bk.drwN (Bk.nw (v6.drewN _).drew 28 #[.int .i64 0, .int .i64 0]) _) h4; have q0 : s4.cell? ⟨v6.heap.size, 0, none⟩ = some (.int .i64 0) := B3.cell 0; have q1 : s4.cell? ⟨v6.heap.size, 1, none⟩ = some (.int .i64 0) := B3.cell 1; have q2 := B3.fr 0; have q3 := B3.fr 1; have HB3K := Lib.hid B3; clear B3) | skip))
            all_goals
              go_wp2_with fail
              go_meet
              first
                | exact ⟨_, _, rfl, rfl, rfl, hz4, (by repeat (first | exact Bk.nw _ _ _ | (with_reducible refine Bk.drwN ?_ _) | (with_reducible refine Bk.drw ?_))), (by repeat (first | with_reducible exact Bel.rf | (with_reducible refine Bel.drwN ?_ _) | (with_reducible refine Bel.drw ?_) | (with_reducible refine Bel.al ?_ _) | ((with_reducible refine Bel.st2 ?_ ?_ _); (first | exact Nat.le_refl _ | exact hz4)) | (refine Bel.tr ?_ (by assumption))))⟩
                | exact ⟨_, _, rfl, rfl, rfl, Nat.le_refl _, (HB3K.out.st 0 _).st 1 _, (by repeat (first | with_reducible exact Bel.rf | (with_reducible refine Bel.drwN ?_ _) | (with_reducible refine Bel.drw ?_) | (with_reducible refine Bel.al ?_ _) | ((with_reducible refine Bel.st2 ?_ ?_ _); (first | exact Nat.le_refl _ | exact hz4)) | (refine Bel.tr ?_ (by assumption))))⟩
          case rest =>
            obtain ⟨bv7, v7, hwx, rfl, rfl, hge, hbk, hbx⟩ := hcut
            subst hwx
            have HBv7 : Hid (Bel v2 v7) := HBv6.out.tr hbx
            have HKv7 := Lib.hid hbk
            clear hge hbk hbx
            go_wp2_with fail
            go_at_call 24
            refine (Gq'.out _ HBv7.out).mono ?_
            rintro e v8 ⟨rfl, h8⟩
            have HB8 : Hid (Bel v2 v8) := HBv7.out.tr h8
            have HK8 := Lib.hid (HKv7.out.bel h8)
            have r0 : v8.cell? ⟨bv7, 0, none⟩ = some (.int .i64 U1) := HK8.out.cell 0
            have r1 : v8.cell? ⟨bv7, 1, none⟩ = some (.int .i64 U2) := HK8.out.cell 1
            have r4 : bv7 < v8.heap.size := HK8.out.lt
            clear h8 kk1 kk2
            go_wp2_with fail
            go_at_call 14
            refine (CM'.out _).mono ?_
            rintro e v9 ⟨rfl, h9⟩
            have HB9 : Hid (Bel v2 v9) := (HB8.out.al _).tr h9
            clear h9
            go_wp2_with (go_at_call 23; refine (AW.out _).mono ?_; rintro e v10 ⟨rfl, h10⟩)
            go_ret
            exact ⟨rfl, ((HBb.out.tr HB9.out).tr h10).bl⟩
        · have nm1 : ((n : Int) = (m : Int)) = False := eq_false (by omega)
          have nm2 : (n = m) = False := eq_false hnm
          have nm3 : ((n : Int) == (m : Int)) = false := beq_eq_false_iff_ne.2 (by omega)
          obtain ⟨kk1, kk2⟩ := KS.out _ HBv6.out
          clear Dr Dq Tr Tq Gr Gq CM
          go_wp2_with fail
          go_quiet (fail)
          go_wp2_with (go_at_call 23; refine (AW.out _).mono ?_; rintro e v9 ⟨rfl, h9⟩)
          go_ret
          exact ⟨rfl, ((HBb.out.tr (by repeat (first | with_reducible exact HBv6.out | with_reducible exact Bel.rf | (with_reducible refine Bel.drwN ?_ _) | (with_reducible refine Bel.drw ?_) | (with_reducible refine Bel.al ?_ _) | (refine Bel.tr ?_ (by assumption))))).tr h9).bl⟩
  · have e : r = 1 := by omega
    subst e
    have j1 : (1 : Int) ≤ (c1 : Int) := by omega
    have j2 : (1 : Int) ≤ (c2 : Int) := by omega
    go_region_held3 (fun _ => True)
      (trivial)
      ((go_at_call 19; refine (Dr.out _ (by repeat (first | with_reducible exact Bel.rf | with_reducible exact Bel.rf | (with_reducible refine Bel.drwN ?_ _) | (with_reducible refine Bel.drw ?_) | (with_reducible refine Bel.al ?_ _) | (refine Bel.tr ?_ (by assumption))))).mono ?_; rintro r v3 ⟨rfl, hv3⟩))
    all_goals
      have HBv3 : Hid (Bel v2 v3) := (by repeat (first | with_reducible exact Bel.rf | with_reducible exact Bel.rf | (with_reducible refine Bel.drwN ?_ _) | (with_reducible refine Bel.drw ?_) | (with_reducible refine Bel.al ?_ _) | (refine Bel.tr ?_ (by assumption))))
      clear hv3
      go_wp2_with fail
      go_at_call 19
      refine (Dq.out _ (by repeat (first | with_reducible exact HBv3.out | with_reducible exact Bel.rf | (with_reducible refine Bel.drwN ?_ _) | (with_reducible refine Bel.drw ?_) | (with_reducible refine Bel.al ?_ _) | (refine Bel.tr ?_ (by assumption))))).mono ?_
      rintro e v4 ⟨rfl, hb⟩
      have HBv4 : Hid (Bel v2 v4) := Bel.tr (by repeat (first | with_reducible exact HBv3.out | with_reducible exact Bel.rf | (with_reducible refine Bel.drwN ?_ _) | (with_reducible refine Bel.drw ?_) | (with_reducible refine Bel.al ?_ _) | (refine Bel.tr ?_ (by assumption)))) hb
      clear hb
      go_wp2_with fail
      go_region_held3 (fun _ => True)
        (trivial)
        ((go_at_call 20; refine (Tr.out _ (by repeat (first | with_reducible exact HBv4.out | with_reducible exact Bel.rf | (with_reducible refine Bel.drwN ?_ _) | (with_reducible refine Bel.drw ?_) | (with_reducible refine Bel.al ?_ _) | (refine Bel.tr ?_ (by assumption))))).mono ?_; rintro r v5 ⟨rfl, hv5⟩))
      all_goals
        have HBv5 : Hid (Bel v2 v5) := (by repeat (first | with_reducible exact HBv4.out | with_reducible exact Bel.rf | (with_reducible refine Bel.drwN ?_ _) | (with_reducible refine Bel.drw ?_) | (with_reducible refine Bel.al ?_ _) | (refine Bel.tr ?_ (by assumption))))
        clear hv5
        go_wp2_with fail
        go_at_call 20
        refine (Tq.out _ (by repeat (first | with_reducible exact HBv5.out | with_reducible exact Bel.rf | (with_reducible refine Bel.drwN ?_ _) | (with_reducible refine Bel.drw ?_) | (with_reducible refine Bel.al ?_ _) | (refine Bel.tr ?_ (by assumption))))).mono ?_
        rintro e v6 ⟨rfl, hb⟩
        have HBv6 : Hid (Bel v2 v6) := Bel.tr (by repeat (first | with_reducible exact HBv5.out | with_reducible exact Bel.rf | (with_reducible refine Bel.drwN ?_ _) | (with_reducible refine Bel.drw ?_) | (with_reducible refine Bel.al ?_ _) | (refine Bel.tr ?_ (by assumption)))) hb
        clear hb
        rcases (show n = m ∨ n ≠ m by omega) with rfl | hnm
        · obtain ⟨kk1, kk2⟩ := KS.out _ HBv6.out
          have Gr' := Lib.hid (Gr.out rfl)
          have Gq' := Lib.hid (Gq.out rfl)
          obtain ⟨z, hz, hC⟩ := CM.out rfl
          have CM' := Lib.hid hC
          clear hC
          clear Dr Dq Tr Tq Gr Gq CM
          go_wp2_with fail
          go_quiet (fail)
          go_upto_region 10 with fail
          go_cut [15, 16] (fun sa sb wx => ∃ (b : Nat) (W : World), W = wx ∧ sa = .pointer (some ⟨b, 0, none⟩) ∧ sb = .int .i64 0 ∧ v6.heap.size ≤ b ∧ Bk wx b 28 #[.int .i64 U1, .int .i64 U2] ∧ Bel v6 wx)
          case first =>
            go_region_held3 (fun _ => True)
              (trivial)
              ((go_at_call 24; refine (Gr'.out _ (Bel.tr HBv6.out (by repeat (first | with_reducible exact Bel.rf | (with_reducible refine Bel.drwN ?_ _) | (with_reducible refine Bel.drw ?_) | (with_reducible refine Bel.al ?_ _) | (refine Bel.tr ?_ (by assumption)))))).mono ?_; rintro r s4 ⟨rfl, h4⟩; have hz4 : v6.heap.size ≤ s4.heap.size := (Bel.tr (by repeat (first | with_reducible exact Bel.rf | (with_reducible refine Bel.drwN ?_ _) | (with_reducible refine Bel.drw ?_) | (with_reducible refine Bel.al ?_ _) | (refine Bel.tr ?_ (by assumption)))) h4).size; first | (have B3 : Bk s4 v6.heap.size 28 #[.int .i64 0, .int .i64 0] := Bk.bel (Bk.nw v6 28 #[.int .i64 0, .int .i64 0]) h4; have q0 : s4.cell? ⟨v6.heap.size, 0, none⟩ = some (.int .i64 0) := B3.cell 0; have q1 : s4.cell? ⟨v6.heap.size, 1, none⟩ = some (.int .i64 0) := B3.cell 1; have q2 := B3.fr 0; have q3 := B3.fr 1; have HB3K := Lib.hid B3; clear B3) | (have B3 : Bk s4 v6.heap.size 28 #[.int .i64 0, .int .i64 0] := Bk.bel (Bk.drw (Bk.nw v6 28 #[.int .i64 0, .int .i64 0])) h4; have q0 : s4.cell? ⟨v6.heap.size, 0, none⟩ = some (.int .i64 0) := B3.cell 0; have q1 : s4.cell? ⟨v6.heap.size, 1, none⟩ = some (.int .i64 0) := B3.cell 1; have q2 := B3.fr 0; have q3 := B3.fr 1; have HB3K := Lib.hid B3; clear B3) | (have B3 : Bk s4 v6.heap.size 28 #[.int .i64 0, .int .i64 0] := Bk.bel (Bk.drwN (Bk.nw v6 28 #[.int .i64 0, .int .i64 0]) _) h4; have q0 : s4.cell? ⟨v6.heap.size, 0, none⟩ = some (.int .i64 0) := B3.cell 0; have q1 : s4.cell? ⟨v6.heap.size, 1, none⟩ = some (.int .i64 0) := B3.cell 1; have q2 := B3.fr 0; have q3 := B3.fr 1; have HB3K := Lib.hid B3; clear B3) | (have B3 : Bk s4 v6.heap.size 28 #[.int .i64 0, .int .i64 0] := Bk.bel (Bk.nw v6.drew 28 #[.int .i64 0, .int .i64 0]) h4; have q0 : s4.cell? ⟨v6.heap.size, 0, none⟩ = some (.int .i64 0) := B3.cell 0; have q1 : s4.cell? ⟨v6.heap.size, 1, none⟩ = some (.int .i64 0) := B3.cell 1; have q2 := B3.fr 0; have q3 := B3.fr 1; have HB3K := Lib.hid B3; clear B3) | (have B3 : Bk s4 v6.heap.size 28 #[.int .i64 0, .int .i64 0] := Bk.bel (Bk.drw (Bk.nw v6.drew 28 #[.int .i64 0, .int .i64 0])) h4; have q0 : s4.cell? ⟨v6.heap.size, 0, none⟩ = some (.int .i64 0) := B3.cell 0; have q1 : s4.cell? ⟨v6.heap.size, 1, none⟩ = some (.int .i64 0) := B3.cell 1; have q2 := B3.fr 0; have q3 := B3.fr 1; have HB3K := Lib.hid B3; clear B3) | (have B3 : Bk s4 v6.heap.size 28 #[.int .i64 0, .int .i64 0] := Bk.bel (Bk.drwN (Bk.nw v6.drew 28 #[.int .i64 0, .int .i64 0]) _) h4; have q0 : s4.cell? ⟨v6.heap.size, 0, none⟩ = some (.int .i64 0) := B3.cell 0; have q1 : s4.cell? ⟨v6.heap.size, 1, none⟩ = some (.int .i64 0) := B3.cell 1; have q2 := B3.fr 0; have q3 := B3.fr 1; have HB3K := Lib.hid B3; clear B3) | (have B3 : Bk s4 v6.heap.size 28 #[.int .i64 0, .int .i64 0] := Bk.bel (Bk.nw (v6.drewN _) 28 #[.int .i64 0, .int .i64 0]) h4; have q0 : s4.cell? ⟨v6.heap.size, 0, none⟩ = some (.int .i64 0) := B3.cell 0; have q1 : s4.cell? ⟨v6.heap.size, 1, none⟩ = some (.int .i64 0) := B3.cell 1; have q2 := B3.fr 0; have q3 := B3.fr 1; have HB3K := Lib.hid B3; clear B3) | (have B3 : Bk s4 v6.heap.size 28 #[.int .i64 0, .int .i64 0] := Bk.bel (Bk.drw (Bk.nw (v6.drewN _) 28 #[.int .i64 0, .int .i64 0])) h4; have q0 : s4.cell? ⟨v6.heap.size, 0, none⟩ = some (.int .i64 0) := B3.cell 0; have q1 : s4.cell? ⟨v6.heap.size, 1, none⟩ = some (.int .i64 0) := B3.cell 1; have q2 := B3.fr 0; have q3 := B3.fr 1; have HB3K := Lib.hid B3; clear B3) | (have B3 : Bk s4 v6.heap.size 28 #[.int .i64 0, .int .i64 0] := Bk.bel (Bk.drwN (Bk.nw (v6.drewN _) 28 #[.int .i64 0, .int .i64 0]) _) h4; have q0 : s4.cell? ⟨v6.heap.size, 0, none⟩ = some (.int .i64 0) := B3.cell 0; have q1 : s4.cell? ⟨v6.heap.size, 1, none⟩ = some (.int .i64 0) := B3.cell 1; have q2 := B3.fr 0; have q3 := B3.fr 1; have HB3K := Lib.hid B3; clear B3) | (have B3 : Bk s4 v6.heap.size 28 #[.int .i64 0, .int .i64 0] := Bk.bel (Bk.nw (v6.drewN _).drew 28 #[.int .i64 0, .int .i64 0]) h4; have q0 : s4.cell? ⟨v6.heap.size, 0, none⟩ = some (.int .i64 0) := B3.cell 0; have q1 : s4.cell? ⟨v6.heap.size, 1, none⟩ = some (.int .i64 0) := B3.cell 1; have q2 := B3.fr 0; have q3 := B3.fr 1; have HB3K := Lib.hid B3; clear B3) | (have B3 : Bk s4 v6.heap.size 28 #[.int .i64 0, .int .i64 0] := Bk.bel (Bk.drw (Bk.nw (v6.drewN _).drew 28 #[.int .i64 0, .int .i64 0])) h4; have q0 : s4.cell? ⟨v6.heap.size, 0, none⟩ = some (.int .i64 0) := B3.cell 0; have q1 : s4.cell? ⟨v6.heap.size, 1, none⟩ = some (.int .i64 0) := B3.cell 1; have q2 := B3.fr 0; have q3 := B3.fr 1; have HB3K := Lib.hid B3; clear B3) | (have B3 : Bk s4 v6.heap.size 28 #[.int .i64 0, .int .i64 0] := Bk.bel (Bk.drwN (Bk.nw (v6.drewN _).drew 28 #[.int .i64 0, .int .i64 0]) _) h4; have q0 : s4.cell? ⟨v6.heap.size, 0, none⟩ = some (.int .i64 0) := B3.cell 0; have q1 : s4.cell? ⟨v6.heap.size, 1, none⟩ = some (.int .i64 0) := B3.cell 1; have q2 := B3.fr 0; have q3 := B3.fr 1; have HB3K := Lib.hid B3; clear B3) | skip))
            all_goals
              go_wp2_with fail
              go_meet
              first
                | exact ⟨_, _, rfl, rfl, rfl, hz4, (by repeat (first | exact Bk.nw _ _ _ | (with_reducible refine Bk.drwN ?_ _) | (with_reducible refine Bk.drw ?_))), (by repeat (first | with_reducible exact Bel.rf | (with_reducible refine Bel.drwN ?_ _) | (with_reducible refine Bel.drw ?_) | (with_reducible refine Bel.al ?_ _) | ((with_reducible refine Bel.st2 ?_ ?_ _); (first | exact Nat.le_refl _ | exact hz4)) | (refine Bel.tr ?_ (by assumption))))⟩
                | exact ⟨_, _, rfl, rfl, rfl, Nat.le_refl _, (HB3K.out.st 0 _).st 1 _, (by repeat (first | with_reducible exact Bel.rf | (with_reducible refine Bel.drwN ?_ _) | (with_reducible refine Bel.drw ?_) | (with_reducible refine Bel.al ?_ _) | ((with_reducible refine Bel.st2 ?_ ?_ _); (first | exact Nat.le_refl _ | exact hz4)) | (refine Bel.tr ?_ (by assumption))))⟩
          case rest =>
            obtain ⟨bv7, v7, hwx, rfl, rfl, hge, hbk, hbx⟩ := hcut
            subst hwx
            have HBv7 : Hid (Bel v2 v7) := HBv6.out.tr hbx
            have HKv7 := Lib.hid hbk
            clear hge hbk hbx
            go_wp2_with fail
            go_at_call 24
            refine (Gq'.out _ HBv7.out).mono ?_
            rintro e v8 ⟨rfl, h8⟩
            have HB8 : Hid (Bel v2 v8) := HBv7.out.tr h8
            have HK8 := Lib.hid (HKv7.out.bel h8)
            have r0 : v8.cell? ⟨bv7, 0, none⟩ = some (.int .i64 U1) := HK8.out.cell 0
            have r1 : v8.cell? ⟨bv7, 1, none⟩ = some (.int .i64 U2) := HK8.out.cell 1
            have r4 : bv7 < v8.heap.size := HK8.out.lt
            clear h8 kk1 kk2
            go_wp2_with fail
            go_at_call 14
            refine (CM'.out _).mono ?_
            rintro e v9 ⟨rfl, h9⟩
            have HB9 : Hid (Bel v2 v9) := (HB8.out.al _).tr h9
            clear h9
            go_wp2_with (go_at_call 23; refine (AW.out _).mono ?_; rintro e v10 ⟨rfl, h10⟩)
            go_ret
            exact ⟨rfl, ((HBb.out.tr HB9.out).tr h10).bl⟩
        · have nm1 : ((n : Int) = (m : Int)) = False := eq_false (by omega)
          have nm2 : (n = m) = False := eq_false hnm
          have nm3 : ((n : Int) == (m : Int)) = false := beq_eq_false_iff_ne.2 (by omega)
          obtain ⟨kk1, kk2⟩ := KS.out _ HBv6.out
          clear Dr Dq Tr Tq Gr Gq CM
          go_wp2_with fail
          go_quiet (fail)
          go_wp2_with (go_at_call 23; refine (AW.out _).mono ?_; rintro e v9 ⟨rfl, h9⟩)
          go_ret
          exact ⟨rfl, ((HBb.out.tr (by repeat (first | with_reducible exact HBv6.out | with_reducible exact Bel.rf | (with_reducible refine Bel.drwN ?_ _) | (with_reducible refine Bel.drw ?_) | (with_reducible refine Bel.al ?_ _) | (refine Bel.tr ?_ (by assumption))))).tr h9).bl⟩

set_option maxRecDepth 100000 in
theorem lifted (os : Os) (started : os.Started) (H : Type) (enc : TypeId × Value → H) :
    ReturnsInHanded {} Try.checked os 6 .any (Rows.channelsMoreSpec.pre6 enc Try.prog Try.f6 Rows.channelsMoreRow.domain false) (Rows.channelsMoreSpec.post enc Try.prog Try.f6 false true false false) := by
  refine returnsInHanded_of_change (C := Try.checked) own started (by kernel_rfl) Try.func6
    (ChangeSpec.witness6 (enc := enc) (C := Try.checked) false ⟨#[], #[.slice none 0 0], []⟩ 8 (by kernel_rfl) (by kernel_rfl) (by kernel_rfl) (by kernel_rfl)) ?_
  intro W base args ds gs before hval0 hW hcnd _
  have hval : ∀ (j : Nat) t v, Try.f6.params[j]? = some t → args[j]? = some v → Value.okWide Try.prog W .any base t v := hval0
  have hW' := hW
  obtain ⟨p, q, hA0, hV, rfl, hfz, hnd⟩ := hW
  have hA : DataW.TrodAll enc Try.prog W 0 (fun _ => true) true Try.f6.params.toList args.toList ds p := hA0
  rw [Try.params6] at hA hval
  obtain ⟨v0, vs0, d0, ds0, p0, q0, hargs, rfl, rfl, h0, r0⟩ := trodAll_cons hA
  obtain ⟨rfl, rfl, rfl⟩ := trodAll_nil r0
  obtain rfl : args = #[v0] := by cases args; simp_all
  obtain ⟨rfl, rfl⟩ := trodVars_none hV
  obtain ⟨a0, len0, cap0, rfl⟩ := okWide_slice Try.underlying22 (hval 0 22 v0 rfl rfl)
  have k0 := h0
  have lt0 : ∀ x ∈ p0, x.block < W.heap.size := by obtain ⟨m, hm⟩ := k0; exact DataW.trod_lt m _ _ _ hm
  obtain ⟨z0, w0⟩ : ∃ zs, IsRow .i64 W a0 len0 cap0 zs := by
    obtain ⟨fuel, hf⟩ := h0
    rcases open_ints Try.underlying22 Try.underlying3 (by kernel_rfl) hf with ⟨hcs, _⟩ | ⟨x, l, c, zs, hcs, _, hl, hm, hz, _, hcell, hwz⟩
    · simp [Value.cells] at hcs
      obtain ⟨rfl, rfl, rfl⟩ := hcs
      exact ⟨[], .inl ⟨rfl, rfl, rfl, rfl⟩⟩
    · simp [Value.cells] at hcs
      obtain ⟨rfl, rfl, rfl⟩ := hcs
      exact ⟨zs, .inr ⟨_, rfl, hl, hm, by simpa using hz, hcell, hwz⟩⟩
  clear hA0 hval0
  refine (walk a0 len0 cap0 z0 W w0).mono fun e W' ⟨he, bel⟩ => ?_
  subst he
  exact ⟨_, rfl, _, _, _, [], _, [], hW', trodAll_mk1 (shut_bool Try.underlying4 _), (trodAll_cons_mk (Below.trod laidOut (by kernel_rfl) (of_decide_eq_true (by kernel_rfl)) k0 bel lt0) trodAll_mk0), rfl, bel.frame _, fun h => by cases h⟩

theorem over : Rows.channelsMoreRow.holds Try.pinned (OpenSpec.ofChange Rows.channelsMoreSpec) :=
  OpenClaim.holds_of_wide 6 Try.f6 rfl rfl rfl rfl rfl rfl rfl ⟨rfl, rfl, rfl, rfl, rfl⟩ rfl rfl rfl rfl rfl (by kernel_rfl) Try.func6 (by kernel_rfl)
    (of_decide_eq_true (by kernel_rfl)) (by unfold Func.isWrapper; first | (rw [if_pos (by decide +kernel)]; kernel_rfl) | (rw [if_neg (by decide +kernel)]; exact ⟨rfl, rfl⟩))
    (fun os started H enc _ => lifted os started H enc)

theorem proved : Rows.ChannelsMoreSaid := over
end Go.Proofs.Ythmdponfigepjaa.channelsMore
