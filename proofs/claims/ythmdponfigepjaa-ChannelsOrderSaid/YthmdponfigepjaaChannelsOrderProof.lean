/- That the law ChannelsOrder returns true for every input that can be read, and leaves its arguments as they were; no further condition. -/
import Derived.Test.YthmdponfigepjaaRows
import Derived.WalkKit
import Derived.ProofKit
import Derived.OpenShut
import Derived.Test.YthmdponfigepjaaWords
import Derived.Test.YthmdponfigepjaaSrcNew0
import Derived.Test.YthmdponfigepjaaChZ
import Derived.Test.YthmdponfigepjaaChEs
import Derived.Test.YthmdponfigepjaaChOs
import Derived.ShutString
import Derived.ChangeOld
import Derived.Below
namespace Go.Proofs.Ythmdponfigepjaa.channelsOrder
open Go.ChangeShapes Go.WideShapes Go.ChangeAt Go.RowKit Wo
open Go.ChangeMaps (open_string shut_string)
set_option linter.unusedVariables false

theorem own : ownKnob Try.prog.godebug = none := by kernel_rfl
theorem laidOut : laidOutB Try.prog = true := by kernel_rfl

/-- WHAT THE WALK IS TOLD OF A SLICE OF INTEGERS THAT CAME IN: it is nil; or it leads to a row of 'cap' cells, the numbers 'zs' (the first 'len' are its elements, the rest its spare room), each fitting its kind. -/
def IsRow (k : IntKind) (w : World) (a : Option Addr) (len cap : Nat) (zs : List Int) : Prop :=
  (a = none ∧ len = 0 ∧ cap = 0 ∧ zs = []) ∨
  ∃ x, a = some x ∧ len ≤ cap ∧ cap ≤ maxLen ∧ zs.length = cap ∧ (∀ i, i < zs.length → w.cell? (x.add i) = some (.int k (zs.getD i 0))) ∧ ∀ n ∈ zs, (Lit.int k n).wf = true

open Go.Proofs.Ythmdponfigepjaa.Ch Go.Proofs.Ythmdponfigepjaa.Wi Go.Proofs.Ythmdponfigepjaa.Wo Go.Proofs.Ythmdponfigepjaa.Sr Go.Proofs.Ythmdponfigepjaa.Ra in
set_option maxHeartbeats 8000000 in
set_option maxRecDepth 100000 in
theorem walk (a0 : Option Addr) (len0 cap0 : Nat) (z0 : List Int) (a1 : Int) (w : World) (w0 : IsRow .i64 w a0 len0 cap0 z0) (w1 : (Lit.int .u8 a1).wf = true) :
    Calls Try.prog 5 #[.slice a0 len0 cap0, .int .u8 a1] w fun e w' => e = .returned (.bool true) ∧ Below w.heap.size w w' := by
  obtain ⟨b0, b1⟩ := bounds_u8 w1
  clear w1
  have AW : Hid (∀ W, Calls Try.prog 23 #[] W fun e w' => e = .returned (.bool true) ∧ Bel W w') := awake_any
  go_enter Try.func5, Try.ntmps5
  go_wp2_with fail
  go_at_call 9
  refine (new_any a0 len0 cap0 z0 w w0).mono ?_
  rintro e v1 ⟨q0, rfl, hq, ho1, hb1⟩
  have HO := Lib.hid ho1
  have HBa : Hid (Bel w v1) := hb1
  clear ho1 hb1
  go_wp2_with fail
  go_at_call 18
  refine (bundles_any q0 _ HO.out).mono ?_
  rintro e v2 ⟨g1, g2, c1, c2, q, n, m, As, Bs, cs, ds, Ls, Ms, k, rfl, q1, q4, qc1, qc2, n1, n2, m1, m2, k0, k1, k2, k3, hX, hY, hL, hM, hc2, ⟨x0, hx0⟩, ⟨y0, hy0⟩⟩
  have HBb : Hid (Bel w v2) := Bel.ch HBa.out hc2 (by have := hq; omega)
  have SS : ∀ c, c < q → Sam (Ls c) ∧ Sam (Ms c) := fun c hc => ⟨(hX.2 c hc).2.2, (hY.2 c hc).2.2⟩
  have SL : ∀ c, c < q → Sam (Ls c) ∧ Sam (Ms c) ∧ (Ls c).length = n ∧ (Ms c).length = m := fun c hc => ⟨(SS c hc).1, (SS c hc).2, (hX.2 c hc).2.1.1, (hY.2 c hc).2.1.1⟩
  obtain ⟨r, hr, rq⟩ : ∃ r : Nat, Int.tmod a1 (q : Int) = (r : Int) ∧ r < q := by
    have h1 := Int.tmod_nonneg (a := a1) (q : Int) (by omega)
    have h2 := Int.tmod_lt_of_pos a1 (b := (q : Int)) (by omega)
    exact ⟨(Int.tmod a1 (q : Int)).toNat, by omega, by omega⟩
  have hrq : r ≤ q := Nat.le_of_lt rq
  have XA : Hid (∀ W, Bel v2 W → Vc W (some ⟨g1, r, none⟩) (q - r) (vls (fun j => chv n As cs (j + r)) (q - r))) := fun W hW => bun_vco (hX.bel hW) r (q - r) (by omega)
  have XB : Hid (∀ W, Bel v2 W → Vc W (some ⟨g1, 0, none⟩) r (vls (chv n As cs) r)) := fun W hW => bun_vco (hX.bel hW) 0 r (by omega)
  have YA : Hid (∀ W, Bel v2 W → Vc W (some ⟨g2, r, none⟩) (q - r) (vls (fun j => chv m Bs ds (j + r)) (q - r))) := fun W hW => bun_vco (hY.bel hW) r (q - r) (by omega)
  have YB : Hid (∀ W, Bel v2 W → Vc W (some ⟨g2, 0, none⟩) r (vls (chv m Bs ds) r)) := fun W hW => bun_vco (hY.bel hW) 0 r (by omega)
  have FX : Hid (∀ W G, Bel v2 W → Vc W (some ⟨G, 0, none⟩) q (vls (rot r q (chv n As cs)) q) → Bun W G q n (rot r q As) (rot r q cs) (rot r q Ls)) := fun W G hW hv => bun_rot hrq q1 hv (hX.bel hW)
  have FY : Hid (∀ W G, Bel v2 W → Vc W (some ⟨G, 0, none⟩) q (vls (rot r q (chv m Bs ds)) q) → Bun W G q m (rot r q Bs) (rot r q ds) (rot r q Ms)) := fun W G hW hv => bun_rot hrq q1 hv (hY.bel hW)
  have HXY := Lib.hid (And.intro hX hY)
  have HSL := Lib.hid SL
  have HNM : Hid (2 ≤ n ∧ n ≤ 32 ∧ 2 ≤ m ∧ m ≤ 32 ∧ 0 ≤ k ∧ k ≤ 32 ∧ (n : Int) - (m : Int) ≤ k ∧ (m : Int) - (n : Int) ≤ k) := ⟨n1, n2, m1, m2, k0, k1, k2, k3⟩
  have ri : (0 : Int) ≤ (r : Int) := by omega
  have rqi : (r : Int) ≤ (q : Int) := by omega
  have rc1 : (r : Int) ≤ (c1 : Int) := by omega
  have rc2 : (r : Int) ≤ (c2 : Int) := by omega
  have qci1 : (q : Int) ≤ (c1 : Int) := by omega
  have qci2 : (q : Int) ≤ (c2 : Int) := by omega
  have wa : IntKind.i64.wrap a1 = a1 := IntWalk.i64_in _ ⟨by omega, by omega⟩
  have wr : IntKind.i64.wrap (r : Int) = (r : Int) := IntWalk.i64_in _ ⟨by omega, by omega⟩
  have q0' : ((q : Int) = 0) = False := eq_false (by omega)
  have f1 : (c1 = r) = False := eq_false (by omega)
  have f2 : (c2 = r) = False := eq_false (by omega)
  have e8 : ((q : Int) - (r : Int)).toNat = q - r := by omega
  clear hx0 hy0 SS SL hX hY hL hM hc2 n1 n2 m1 m2 k0 k1 k2 k3
  go_upto_region 3 with fail
  go_cut [9, 10] (fun s9 s10 wx => ∃ (G H c d : Nat) (W : World), W = wx ∧ s9 = .slice (some ⟨G, 0, none⟩) q c ∧ s10 = .slice (some ⟨H, 0, none⟩) q d ∧ Bun wx G q n (rot r q As) (rot r q cs) (rot r q Ls) ∧ Bun wx H q m (rot r q Bs) (rot r q ds) (rot r q Ms) ∧ Bel v2 wx)
  case first =>
    go_region_law (first
      | (refine step_new _ rfl (.tmp 39) (.tmp 42) rfl _ rfl ⟨g1, r, none⟩ (q - r) _ (vls (fun j => chv n As cs (j + r)) (q - r)) rfl (XA.out _ (by repeat (first | with_reducible exact Bel.rf | (with_reducible refine Bel.drwN ?_ _) | (with_reducible refine Bel.drw ?_) | (with_reducible refine Bel.al ?_ _)))) (by omega) (by omega) ?_; intro p1 u1 ho1 hb1; have t1 := grow_own (v2 := v2) (by repeat (first | with_reducible exact Bel.rf | (with_reducible refine Bel.drwN ?_ _) | (with_reducible refine Bel.drw ?_) | (with_reducible refine Bel.al ?_ _))) ho1 hb1; clear ho1 hb1)
      | (refine step_appc _ rfl (.tmp 43) (.tmp 46) rfl v2.heap.size p1 (q - r) (vls (fun j => chv n As cs (j + r)) (q - r)) rfl (own_bel t1.1 (by repeat (first | with_reducible exact Bel.rf | (with_reducible refine Bel.drwN ?_ _) | (with_reducible refine Bel.drw ?_) | (with_reducible refine Bel.al ?_ _)))) ⟨g1, 0, none⟩ r _ (vls (chv n As cs) r) rfl (XB.out _ (t1.2.tr (by repeat (first | with_reducible exact Bel.rf | (with_reducible refine Bel.drwN ?_ _) | (with_reducible refine Bel.drw ?_) | (with_reducible refine Bel.al ?_ _))))) (by omega) ((t1.2.tr (by repeat (first | with_reducible exact Bel.rf | (with_reducible refine Bel.drwN ?_ _) | (with_reducible refine Bel.drw ?_) | (with_reducible refine Bel.al ?_ _)))).size) ?_; intro p2 u2 ho2 hg2 _; have t2 := app_own (v2 := v2) (own_bel t1.1 (by repeat (first | with_reducible exact Bel.rf | (with_reducible refine Bel.drwN ?_ _) | (with_reducible refine Bel.drw ?_) | (with_reducible refine Bel.al ?_ _)))) (t1.2.tr (by repeat (first | with_reducible exact Bel.rf | (with_reducible refine Bel.drwN ?_ _) | (with_reducible refine Bel.drw ?_) | (with_reducible refine Bel.al ?_ _)))) ho2 hg2; clear ho2 hg2)
      | (refine step_new _ rfl (.tmp 48) (.tmp 51) rfl _ rfl ⟨g2, r, none⟩ (q - r) _ (vls (fun j => chv m Bs ds (j + r)) (q - r)) rfl (YA.out _ (t2.2.tr (by repeat (first | with_reducible exact Bel.rf | (with_reducible refine Bel.drwN ?_ _) | (with_reducible refine Bel.drw ?_) | (with_reducible refine Bel.al ?_ _))))) (by omega) (by omega) ?_; intro p3 u3 ho3 hb3; have t3 := grow_two (v2 := v2) t2.1 t2.2 (by repeat (first | with_reducible exact Bel.rf | (with_reducible refine Bel.drwN ?_ _) | (with_reducible refine Bel.drw ?_) | (with_reducible refine Bel.al ?_ _))) ho3 hb3; clear ho3 hb3)
      | (refine step_appc _ rfl (.tmp 52) (.tmp 55) rfl u2.heap.size p3 (q - r) (vls (fun j => chv m Bs ds (j + r)) (q - r)) rfl (own_bel t3.2.1 (by repeat (first | with_reducible exact Bel.rf | (with_reducible refine Bel.drwN ?_ _) | (with_reducible refine Bel.drw ?_) | (with_reducible refine Bel.al ?_ _)))) ⟨g2, 0, none⟩ r _ (vls (chv m Bs ds) r) rfl (YB.out _ (t3.2.2.2.tr (by repeat (first | with_reducible exact Bel.rf | (with_reducible refine Bel.drwN ?_ _) | (with_reducible refine Bel.drw ?_) | (with_reducible refine Bel.al ?_ _))))) (by omega) (Nat.le_trans t3.2.2.1 (Bel.size (by repeat (first | with_reducible exact Bel.rf | (with_reducible refine Bel.drwN ?_ _) | (with_reducible refine Bel.drw ?_) | (with_reducible refine Bel.al ?_ _))))) ?_; intro p4 u4 ho4 hg4 _; have t4 := app_two (v2 := v2) t2.1 t2.2 t3 (by repeat (first | with_reducible exact Bel.rf | (with_reducible refine Bel.drwN ?_ _) | (with_reducible refine Bel.drw ?_) | (with_reducible refine Bel.al ?_ _))) ho4 hg4; clear ho4 hg4))
    all_goals
      go_wp2_with fail
      go_meet
      obtain ⟨G, c, e1, hv1⟩ := row_done hrq q1 t4.1
      obtain ⟨H, d, e2, hv2⟩ := row_done hrq q1 t4.2.1
      exact ⟨G, H, c, d, _, rfl, e1, e2, FX.out _ _ (t4.2.2.tr (by repeat (first | with_reducible exact Bel.rf | (with_reducible refine Bel.drwN ?_ _) | (with_reducible refine Bel.drw ?_) | (with_reducible refine Bel.al ?_ _)))) (hv1.bel (by repeat (first | with_reducible exact Bel.rf | (with_reducible refine Bel.drwN ?_ _) | (with_reducible refine Bel.drw ?_) | (with_reducible refine Bel.al ?_ _)))), FY.out _ _ (t4.2.2.tr (by repeat (first | with_reducible exact Bel.rf | (with_reducible refine Bel.drwN ?_ _) | (with_reducible refine Bel.drw ?_) | (with_reducible refine Bel.al ?_ _)))) (hv2.bel (by repeat (first | with_reducible exact Bel.rf | (with_reducible refine Bel.drwN ?_ _) | (with_reducible refine Bel.drw ?_) | (with_reducible refine Bel.al ?_ _)))), t4.2.2.tr (by repeat (first | with_reducible exact Bel.rf | (with_reducible refine Bel.drwN ?_ _) | (with_reducible refine Bel.drw ?_) | (with_reducible refine Bel.al ?_ _)))⟩
  case rest =>
    obtain ⟨G, H, cg, dh, v3, hwx, rfl, rfl, hP, hQ, hbx⟩ := hcut
    subst hwx
    have HBv3 : Hid (Bel v3 v3) := Bel.rf
    have HW3 : Hid (Bel w v3) := HBb.out.tr hbx
    have hX := HXY.out.1.bel hbx
    have hY := HXY.out.2.bel hbx
    obtain ⟨n1, n2, m1, m2, k0, k1, k2, k3⟩ := HNM.out
    have D1 : Hid (∀ W, Bel v3 W → _) := fun W hW => apart_ok g1 g2 q n m c1 c2 As Bs cs ds Ls Ms k q1 q4 n1 n2 m1 m2 k0 k1 k2 k3 W (hX.bel hW) (hY.bel hW)
    have D2 : Hid (∀ W, Bel v3 W → _) := fun W hW => apart_ok G H q n m cg dh _ _ _ _ _ _ k q1 q4 n1 n2 m1 m2 k0 k1 k2 k3 W (hP.bel hW) (hQ.bel hW)
    have T1 : Hid (∀ W, Bel v3 W → _) := fun W hW => together_ok g1 g2 q n m c1 c2 As Bs cs ds Ls Ms k q1 q4 n1 n2 m1 m2 k0 k1 k2 k3 W (hX.bel hW) (hY.bel hW)
    have T2 : Hid (∀ W, Bel v3 W → _) := fun W hW => together_ok G H q n m cg dh _ _ _ _ _ _ k q1 q4 n1 n2 m1 m2 k0 k1 k2 k3 W (hP.bel hW) (hQ.bel hW)
    rw [aps_rot k n m Ls Ms hrq] at D2
    rw [fs_rot Ls Ms hrq] at T2
    have E1 : Hid (n = m → ∀ W, Bel v3 W → Calls Try.prog 22 #[.slice (some ⟨g1, 0, none⟩) q c1, .slice (some ⟨g2, 0, none⟩) q c2] W fun e w' => e = .returned (.tuple #[.int .i64 (es Ls Ms q), .int .i64 0]) ∧ Bel W w') := fun e W hW => by
      subst e
      exact euclid_ok g1 g2 q n c1 c2 As Bs cs ds Ls Ms q1 q4 n1 n2 (fun t ht => by
        have := es_bd (Ls := Ls) (Ms := Ms) n2 t (fun c hc => HSL.out c (by omega))
        omega) W (hX.bel hW) (hY.bel hW)
    have E2 : Hid (n = m → ∀ W, Bel v3 W → Calls Try.prog 22 #[.slice (some ⟨G, 0, none⟩) q cg, .slice (some ⟨H, 0, none⟩) q dh] W fun e w' => e = .returned (.tuple #[.int .i64 (es Ls Ms q), .int .i64 0]) ∧ Bel W w') := fun e W hW => by
      subst e
      rw [← es_rot Ls Ms hrq]
      exact euclid_ok G H q n cg dh _ _ _ _ _ _ q1 q4 n1 n2 (fun t ht => by
        have := es_bd (Ls := rot r q Ls) (Ms := rot r q Ms) n2 t (fun c hc => ⟨(hP.2 c (by omega)).2.2, (hQ.2 c (by omega)).2.2, (hP.2 c (by omega)).2.1.1, (hQ.2 c (by omega)).2.1.1⟩)
        omega) W (hP.bel hW) (hQ.bel hW)
    have G1 : Hid (n = m → ∀ W, Bel v3 W → Calls Try.prog 24 #[.slice (some ⟨g1, 0, none⟩) q c1, .slice (some ⟨g2, 0, none⟩) q c2] W fun e w' => e = .returned (.tuple #[.agg #[.int .i64 (gs Ls Ms q).1, .int .i64 (gs Ls Ms q).2], .int .i64 0]) ∧ Bel W w') := fun e W hW => by
      subst e
      exact greatest_ok g1 g2 q n c1 c2 As Bs cs ds Ls Ms q1 q4 n1 n2 W (hX.bel hW) (hY.bel hW)
    have G2 : Hid (n = m → ∀ W, Bel v3 W → Calls Try.prog 24 #[.slice (some ⟨G, 0, none⟩) q cg, .slice (some ⟨H, 0, none⟩) q dh] W fun e w' => e = .returned (.tuple #[.agg #[.int .i64 (gs Ls Ms q).1, .int .i64 (gs Ls Ms q).2], .int .i64 0]) ∧ Bel W w') := fun e W hW => by
      subst e
      rw [← gs_rot hrq q1 (fun c hc => gp_rv n2 (HSL.out c hc))]
      exact greatest_ok G H q n cg dh _ _ _ _ _ _ q1 q4 n1 n2 W (hP.bel hW) (hQ.bel hW)
    obtain ⟨ca, za, sa⟩ := hX.2 0 q1
    obtain ⟨cb, zb, sb⟩ := hY.2 0 q1
    have KS : Hid (∀ W, Bel v3 W → W.cell? ⟨g1, 0, none⟩ = some (.slice (As 0) n (cs 0)) ∧ W.cell? ⟨g2, 0, none⟩ = some (.slice (Bs 0) m (ds 0))) := fun W h => ⟨h.kp ca, h.kp cb⟩
    obtain ⟨a, ha⟩ : ∃ a, aps k n m Ls Ms q = a := ⟨_, rfl⟩
    obtain ⟨b, hb⟩ : ∃ a, wg (fs Ls Ms q) k n m = a := ⟨_, rfl⟩
    obtain ⟨s, hs⟩ : ∃ a, es Ls Ms q = a := ⟨_, rfl⟩
    obtain ⟨U, hU⟩ : ∃ a, gs Ls Ms q = a := ⟨_, rfl⟩
    rw [ha] at D1 D2
    rw [hb] at T1 T2
    rw [hs] at E1 E2
    rw [hU] at G1 G2
    obtain ⟨U1, U2⟩ := U
    have i3 : (0 : Int) < (q : Int) := by omega
    have i5 : 0 < q := q1
    have i6 : ((0 : Int) < (q : Int)) = True := eq_true i3
    have i7 : (0 < q) = True := eq_true i5
    have naa : (a != a) = false := by simp
    have nbb : (b != b) = false := by simp
    have ess : (s == s) = true := by simp
    clear ha hb hs hU hX hY hP hQ hbx ca cb za zb sa sb HXY HSL XA XB YA YB FX FY hr f1 f2 e8 wa wr q0' ri rqi rc1 rc2 qci1 qci2
    go_wp2_with fail
    go_at_call 19
    refine (D1.out _ (by repeat (first | with_reducible exact HBv3.out | with_reducible exact Bel.rf | (with_reducible refine Bel.drwN ?_ _) | (with_reducible refine Bel.drw ?_) | (with_reducible refine Bel.al ?_ _) | (refine Bel.tr ?_ (by assumption))))).mono ?_
    rintro e v4 ⟨rfl, hb⟩
    have HBv4 : Hid (Bel v3 v4) := Bel.tr (by repeat (first | with_reducible exact HBv3.out | with_reducible exact Bel.rf | (with_reducible refine Bel.drwN ?_ _) | (with_reducible refine Bel.drw ?_) | (with_reducible refine Bel.al ?_ _) | (refine Bel.tr ?_ (by assumption)))) hb
    clear hb
    go_wp2_with fail
    go_at_call 19
    refine (D2.out _ (by repeat (first | with_reducible exact HBv4.out | with_reducible exact Bel.rf | (with_reducible refine Bel.drwN ?_ _) | (with_reducible refine Bel.drw ?_) | (with_reducible refine Bel.al ?_ _) | (refine Bel.tr ?_ (by assumption))))).mono ?_
    rintro e v5 ⟨rfl, hb⟩
    have HBv5 : Hid (Bel v3 v5) := Bel.tr (by repeat (first | with_reducible exact HBv4.out | with_reducible exact Bel.rf | (with_reducible refine Bel.drwN ?_ _) | (with_reducible refine Bel.drw ?_) | (with_reducible refine Bel.al ?_ _) | (refine Bel.tr ?_ (by assumption)))) hb
    clear hb
    go_wp2_with fail
    go_at_call 20
    refine (T1.out _ (by repeat (first | with_reducible exact HBv5.out | with_reducible exact Bel.rf | (with_reducible refine Bel.drwN ?_ _) | (with_reducible refine Bel.drw ?_) | (with_reducible refine Bel.al ?_ _) | (refine Bel.tr ?_ (by assumption))))).mono ?_
    rintro e v6 ⟨rfl, hb⟩
    have HBv6 : Hid (Bel v3 v6) := Bel.tr (by repeat (first | with_reducible exact HBv5.out | with_reducible exact Bel.rf | (with_reducible refine Bel.drwN ?_ _) | (with_reducible refine Bel.drw ?_) | (with_reducible refine Bel.al ?_ _) | (refine Bel.tr ?_ (by assumption)))) hb
    clear hb
    go_wp2_with fail
    go_at_call 20
    refine (T2.out _ (by repeat (first | with_reducible exact HBv6.out | with_reducible exact Bel.rf | (with_reducible refine Bel.drwN ?_ _) | (with_reducible refine Bel.drw ?_) | (with_reducible refine Bel.al ?_ _) | (refine Bel.tr ?_ (by assumption))))).mono ?_
    rintro e v7 ⟨rfl, hb⟩
    have HBv7 : Hid (Bel v3 v7) := Bel.tr (by repeat (first | with_reducible exact HBv6.out | with_reducible exact Bel.rf | (with_reducible refine Bel.drwN ?_ _) | (with_reducible refine Bel.drw ?_) | (with_reducible refine Bel.al ?_ _) | (refine Bel.tr ?_ (by assumption)))) hb
    clear hb
    obtain ⟨kk1, kk2⟩ := KS.out _ HBv7.out
    clear D1 D2 T1 T2
    rcases (show n = m ∨ n ≠ m by omega) with rfl | hnm
    · have E1' := Lib.hid (E1.out rfl)
      have E2' := Lib.hid (E2.out rfl)
      have G1' := Lib.hid (G1.out rfl)
      have G2' := Lib.hid (G2.out rfl)
      clear E1 E2 G1 G2
      go_wp2_with fail
      go_quiet (fail)
      go_wp2_with fail
      go_at_call 22
      refine (E1'.out _ (by repeat (first | with_reducible exact HBv7.out | with_reducible exact Bel.rf | (with_reducible refine Bel.drwN ?_ _) | (with_reducible refine Bel.drw ?_) | (with_reducible refine Bel.al ?_ _) | (refine Bel.tr ?_ (by assumption))))).mono ?_
      rintro e v8 ⟨rfl, hb⟩
      have HBv8 : Hid (Bel v3 v8) := Bel.tr (by repeat (first | with_reducible exact HBv7.out | with_reducible exact Bel.rf | (with_reducible refine Bel.drwN ?_ _) | (with_reducible refine Bel.drw ?_) | (with_reducible refine Bel.al ?_ _) | (refine Bel.tr ?_ (by assumption)))) hb
      clear hb
      go_wp2_with fail
      go_at_call 22
      refine (E2'.out _ (by repeat (first | with_reducible exact HBv8.out | with_reducible exact Bel.rf | (with_reducible refine Bel.drwN ?_ _) | (with_reducible refine Bel.drw ?_) | (with_reducible refine Bel.al ?_ _) | (refine Bel.tr ?_ (by assumption))))).mono ?_
      rintro e v9 ⟨rfl, hb⟩
      have HBv9 : Hid (Bel v3 v9) := Bel.tr (by repeat (first | with_reducible exact HBv8.out | with_reducible exact Bel.rf | (with_reducible refine Bel.drwN ?_ _) | (with_reducible refine Bel.drw ?_) | (with_reducible refine Bel.al ?_ _) | (refine Bel.tr ?_ (by assumption)))) hb
      clear hb
      go_wp2_with fail
      go_at_call 24
      refine (G1'.out _ (by repeat (first | with_reducible exact HBv9.out | with_reducible exact Bel.rf | (with_reducible refine Bel.drwN ?_ _) | (with_reducible refine Bel.drw ?_) | (with_reducible refine Bel.al ?_ _) | (refine Bel.tr ?_ (by assumption))))).mono ?_
      rintro e v10 ⟨rfl, hb⟩
      have HBv10 : Hid (Bel v3 v10) := Bel.tr (by repeat (first | with_reducible exact HBv9.out | with_reducible exact Bel.rf | (with_reducible refine Bel.drwN ?_ _) | (with_reducible refine Bel.drw ?_) | (with_reducible refine Bel.al ?_ _) | (refine Bel.tr ?_ (by assumption)))) hb
      clear hb kk1 kk2
      have HA10 : Hid (Bel v3 (v10.alloc (.cells #[.int .i64 U1, .int .i64 U2] 28))) := HBv10.out.al _
      have HK10 : Hid (Bk (v10.alloc (.cells #[.int .i64 U1, .int .i64 U2] 28)) v10.heap.size 28 #[.int .i64 U1, .int .i64 U2]) := Bk.nw _ _ _
      go_wp2_with fail
      go_at_call 24
      refine (G2'.out _ HA10.out).mono ?_
      rintro e v11 ⟨rfl, hb⟩
      have HB11 : Hid (Bel v3 v11) := HA10.out.tr hb
      have HK11 := Lib.hid (HK10.out.bel hb)
      have r0 : v11.cell? ⟨v10.heap.size, 0, none⟩ = some (.int .i64 U1) := HK11.out.cell 0
      have r1 : v11.cell? ⟨v10.heap.size, 1, none⟩ = some (.int .i64 U2) := HK11.out.cell 1
      have r4 : v10.heap.size < v11.heap.size := HK11.out.lt
      clear hb
      go_wp2_with (go_at_call 23; refine (AW.out _).mono ?_; rintro e v12 ⟨rfl, h12⟩)
      go_ret
      exact ⟨rfl, ((HW3.out.tr (HB11.out.al _)).tr h12).bl⟩
    · have nm1 : ((n : Int) = (m : Int)) = False := eq_false (by omega)
      have nm2 : (n = m) = False := eq_false hnm
      have nm3 : ((n : Int) == (m : Int)) = false := beq_eq_false_iff_ne.2 (by omega)
      clear E1 E2 G1 G2
      go_wp2_with fail
      go_quiet (fail)
      go_wp2_with (go_at_call 23; refine (AW.out _).mono ?_; rintro e v9 ⟨rfl, h9⟩)
      go_ret
      exact ⟨rfl, ((HW3.out.tr (by repeat (first | with_reducible exact HBv7.out | (with_reducible refine Bel.drwN ?_ _) | (with_reducible refine Bel.drw ?_)))).tr h9).bl⟩

set_option maxRecDepth 100000 in
theorem lifted (os : Os) (started : os.Started) (H : Type) (enc : TypeId × Value → H) :
    ReturnsInHanded {} Try.checked os 5 .any (Rows.channelsOrderSpec.pre6 enc Try.prog Try.f5 Rows.channelsOrderRow.domain false) (Rows.channelsOrderSpec.post enc Try.prog Try.f5 false true false false) := by
  refine returnsInHanded_of_change (C := Try.checked) own started (by kernel_rfl) Try.func5
    (ChangeSpec.witness6 (enc := enc) (C := Try.checked) false ⟨#[], #[.slice none 0 0, .int .u8 0], []⟩ 8 (by kernel_rfl) (by kernel_rfl) (by kernel_rfl) (by kernel_rfl)) ?_
  intro W base args ds gs before hval0 hW hcnd _
  have hval : ∀ (j : Nat) t v, Try.f5.params[j]? = some t → args[j]? = some v → Value.okWide Try.prog W .any base t v := hval0
  have hW' := hW
  obtain ⟨p, q, hA0, hV, rfl, hfz, hnd⟩ := hW
  have hA : DataW.TrodAll enc Try.prog W 0 (fun _ => true) true Try.f5.params.toList args.toList ds p := hA0
  rw [Try.params5] at hA hval
  obtain ⟨v0, vs0, d0, ds0, p0, q0, hargs, rfl, rfl, h0, r0⟩ := trodAll_cons hA
  obtain ⟨v1, vs1, d1, ds1, p1, q1, rfl, rfl, rfl, h1, r1⟩ := trodAll_cons r0
  obtain ⟨rfl, rfl, rfl⟩ := trodAll_nil r1
  obtain rfl : args = #[v0, v1] := by cases args; simp_all
  obtain ⟨rfl, rfl⟩ := trodVars_none hV
  obtain ⟨a0, len0, cap0, rfl⟩ := okWide_slice Try.underlying22 (hval 0 22 v0 rfl rfl)
  have k0 := h0
  have lt0 : ∀ x ∈ p0, x.block < W.heap.size := by obtain ⟨m, hm⟩ := k0; exact DataW.trod_lt m _ _ _ hm
  obtain ⟨z0, w0⟩ : ∃ zs, IsRow .i64 W a0 len0 cap0 zs := by
    obtain ⟨fuel, hf⟩ := h0
    rcases open_ints Try.underlying22 Try.underlying3 (by kernel_rfl) hf with ⟨hcs, _⟩ | ⟨x, l, c, zs, hcs, _, hl, hm, hz, _, hcell, hwz⟩
    · simp [Value.cells] at hcs
      obtain ⟨rfl, rfl, rfl⟩ := hcs
      exact ⟨[], .inl ⟨rfl, rfl, rfl, rfl⟩⟩
    · simp [Value.cells] at hcs
      obtain ⟨rfl, rfl, rfl⟩ := hcs
      exact ⟨zs, .inr ⟨_, rfl, hl, hm, by simpa using hz, hcell, hwz⟩⟩
  obtain ⟨a1, rfl, rfl, rfl, w1⟩ := open_int Try.underlying5 (hval 1 5 v1 rfl rfl) h1
  clear hA0 hval0
  refine (walk a0 len0 cap0 z0 a1 W w0 w1).mono fun e W' ⟨he, bel⟩ => ?_
  subst he
  exact ⟨_, rfl, _, _, _, [], _, [], hW', trodAll_mk1 (shut_bool Try.underlying4 _), (trodAll_cons_mk (Below.trod laidOut (by kernel_rfl) (of_decide_eq_true (by kernel_rfl)) k0 bel lt0) (trodAll_cons_mk (shut_int Try.underlying5 w1) trodAll_mk0)), rfl, bel.frame _, fun h => by cases h⟩

theorem over : Rows.channelsOrderRow.holds Try.pinned (OpenSpec.ofChange Rows.channelsOrderSpec) :=
  OpenClaim.holds_of_wide 5 Try.f5 rfl rfl rfl rfl rfl rfl rfl ⟨rfl, rfl, rfl, rfl, rfl⟩ rfl rfl rfl rfl rfl (by kernel_rfl) Try.func5 (by kernel_rfl)
    (of_decide_eq_true (by kernel_rfl)) (by unfold Func.isWrapper; first | (rw [if_pos (by decide +kernel)]; kernel_rfl) | (rw [if_neg (by decide +kernel)]; exact ⟨rfl, rfl⟩))
    (fun os started H enc _ => lifted os started H enc)

theorem proved : Rows.ChannelsOrderSaid := over
end Go.Proofs.Ythmdponfigepjaa.channelsOrder
