/- That the law SegmentShort returns true for every input that can be read, and leaves its arguments as they were; no further condition. -/
import Derived.Test.YtaplbkfmedofcaaRows
import Derived.WalkKit
import Derived.ProofKit
import Derived.OpenShut
import Derived.Test.YtaplbkfmedofcaaWords
import Derived.Test.YtaplbkfmedofcaaSrcNew0
import Derived.Test.YtaplbkfmedofcaaSgV
import Derived.ShutString
import Derived.ChangeOld
import Derived.Below
namespace Go.Proofs.Ytaplbkfmedofcaa.segmentShort
open Go.ChangeShapes Go.WideShapes Go.ChangeAt Go.RowKit Wo
open Go.ChangeMaps (open_string shut_string)
set_option linter.unusedVariables false

theorem own : ownKnob Try.prog.godebug = none := by kernel_rfl
theorem laidOut : laidOutB Try.prog = true := by kernel_rfl

/-- WHAT THE WALK IS TOLD OF A SLICE OF INTEGERS THAT CAME IN: it is nil; or it leads to a row of 'cap' cells, the numbers 'zs' (the first 'len' are its elements, the rest its spare room), each fitting its kind. -/
def IsRow (k : IntKind) (w : World) (a : Option Addr) (len cap : Nat) (zs : List Int) : Prop :=
  (a = none ∧ len = 0 ∧ cap = 0 ∧ zs = []) ∨
  ∃ x, a = some x ∧ len ≤ cap ∧ cap ≤ maxLen ∧ zs.length = cap ∧ (∀ i, i < zs.length → w.cell? (x.add i) = some (.int k (zs.getD i 0))) ∧ ∀ n ∈ zs, (Lit.int k n).wf = true

theorem sh_q {B V : Nat} (h : (B + 7) / 8 = V) : ((B : Int) + 7) / 8 = (V : Int) := by omega
theorem sh_b {B V : Nat} (h : (B + 7) / 8 = V) (hb : B ≤ 64 * 12) : (B : Int) ≤ 768 ∧ (V : Int) ≤ 97 := by omega
theorem sh_l {n H V : Nat} (h : n ≤ H + V) : (n : Int) ≤ (H : Int) + (V : Int) := by omega
theorem sh_h {H : Nat} (h : H ≤ 45) : (H : Int) ≤ 45 := by omega
open Go.Proofs.Ytaplbkfmedofcaa.Pk Go.Proofs.Ytaplbkfmedofcaa.Sg Go.Proofs.Ytaplbkfmedofcaa.Wi Go.Proofs.Ytaplbkfmedofcaa.Wo Go.Proofs.Ytaplbkfmedofcaa.Sr Go.Proofs.Ytaplbkfmedofcaa.By Go.Proofs.Ytaplbkfmedofcaa.Bm Go.Proofs.Ytaplbkfmedofcaa.Cd Go.Proofs.Ytaplbkfmedofcaa.Cr in
theorem seg_short {x : List Int} (h : Vx x) : (seg x).length = 1 + (bytesOf (x.length : Int)).length + (bytesOf (mn x)).length + (bytesOf (mx x - mn x)).length + (bytesOf x.sum).length + 4 + (dt x).length ∧ (dt x).length ≤ (x.length * wd [dD x] + 7) / 8 ∧ (mn x = mx x → (dt x).length = 0) := by
  refine ⟨?_, ?_, fun e => ?_⟩
  · rw [(seg_len h).2.2]
    unfold bod
    simp only [List.length_append, List.length_singleton]
    omega
  · have := (pd_len h).1
    unfold dt
    split
    · simp
    · split <;> omega
  · unfold dt; rw [if_pos e]; rfl
open Go.Proofs.Ytaplbkfmedofcaa.Pk Go.Proofs.Ytaplbkfmedofcaa.Sg Go.Proofs.Ytaplbkfmedofcaa.Wi Go.Proofs.Ytaplbkfmedofcaa.Wo Go.Proofs.Ytaplbkfmedofcaa.Sr Go.Proofs.Ytaplbkfmedofcaa.By Go.Proofs.Ytaplbkfmedofcaa.Bm Go.Proofs.Ytaplbkfmedofcaa.Cd Go.Proofs.Ytaplbkfmedofcaa.Cr in
set_option maxHeartbeats 8000000 in
set_option maxRecDepth 100000 in
theorem walk (a0 : Option Addr) (len0 cap0 : Nat) (z0 : List Int) (w : World) (w0 : IsRow .i64 w a0 len0 cap0 z0) :
    Calls Try.prog 6 #[.slice a0 len0 cap0] w fun e w' => e = .returned (.bool true) ∧ Below w.heap.size w w' := by
  have AW : Hid (∀ W, Calls Try.prog 8 #[] W fun e w' => e = .returned (.bool true) ∧ Bel W w') := awake10_ok
  go_enter Try.func6, Try.ntmps6
  go_wp2_with fail
  go_at_call 10
  refine (new_any a0 len0 cap0 z0 w w0).mono ?_
  rintro e v1 ⟨g, rfl, hg, ho1, hb1⟩
  have HO1 := Lib.hid ho1
  have HB1 := Lib.hid hb1
  clear ho1 hb1 w0
  go_wp2_with fail
  go_at_call 9
  refine (made_ok g _ HO1.out).mono ?_
  rintro e v2 ⟨h, c0, k, x, rfl, hz, hk, hkc, hv, hsz, ho2, hc2⟩
  have HB2 : Hid (Bel w v2) := Bel.ch HB1.out hc2 hg
  obtain ⟨n, hn⟩ : ∃ n, (seg x).length = n := ⟨_, rfl⟩
  have hpl := (seg_len hv).1
  have hpu := (seg_len hv).2.1
  rw [hn] at hpl hpu
  have hk1 : 1 ≤ k ∧ k ≤ 64 := by have := hv.1; have := hv.2.1; omega
  obtain ⟨a1', a2', a3', a4', _⟩ := heads_in hv
  obtain ⟨s1, s2, s3⟩ := seg_short hv
  have hD := dD_int hv.1
  have hDl := dD_le hv.2.2 hv.1
  have hpw := pw_le hv.2.2 hv.1
  have hmn := mn_in hv.2.2 hv.1
  have hmx := mx_in hv.2.2 hv.1
  rw [hn, hk] at s1
  rw [hk] at s2 a1'
  obtain ⟨m, hm⟩ : ∃ m, mn x = m := ⟨_, rfl⟩
  obtain ⟨M, hM⟩ : ∃ m, mx x = m := ⟨_, rfl⟩
  obtain ⟨s, hs⟩ : ∃ m, x.sum = m := ⟨_, rfl⟩
  obtain ⟨d, hd⟩ : ∃ m, dD x = m := ⟨_, rfl⟩
  rw [hm, hM] at hD a3' s1 s3
  rw [hd] at hD hDl hpw s2
  rw [← hD] at a3' s1
  rw [hm] at a2' hmn
  rw [hM] at hmx
  rw [hs] at a4' s1
  obtain ⟨b, hb⟩ : ∃ m, wd [d] = m := ⟨_, rfl⟩
  rw [hb] at hpw s2
  obtain ⟨q0, hq0⟩ : ∃ q, (bytesOf (k : Int)).length = q := ⟨_, rfl⟩
  obtain ⟨q1, hq1⟩ : ∃ q, (bytesOf m).length = q := ⟨_, rfl⟩
  obtain ⟨q2, hq2⟩ : ∃ q, (bytesOf (d : Int)).length = q := ⟨_, rfl⟩
  obtain ⟨q3, hq3⟩ : ∃ q, (bytesOf s).length = q := ⟨_, rfl⟩
  rw [hq0, hq1, hq2, hq3] at s1
  have hql : q0 ≤ 10 ∧ q1 ≤ 10 ∧ q2 ≤ 10 ∧ q3 ≤ 10 := by
    have := (bytesOf_len (k : Int)).2
    have := (bytesOf_len m).2
    have := (bytesOf_len (d : Int)).2
    have := (bytesOf_len s).2
    omega
  obtain ⟨N0, hN0⟩ : ∃ N, 1 + q0 = N := ⟨_, rfl⟩
  obtain ⟨N1, hN1⟩ : ∃ N, N0 + q1 = N := ⟨_, rfl⟩
  obtain ⟨N2, hN2⟩ : ∃ N, N1 + q2 = N := ⟨_, rfl⟩
  obtain ⟨N3, hN3⟩ : ∃ N, N2 + q3 = N := ⟨_, rfl⟩
  obtain ⟨H, hH⟩ : ∃ N, N3 + 4 = N := ⟨_, rfl⟩
  obtain ⟨B, hB⟩ : ∃ N, k * b = N := ⟨_, rfl⟩
  obtain ⟨V, hV⟩ : ∃ N, (B + 7) / 8 = N := ⟨_, rfl⟩
  rw [hB, hV] at s2
  have hBb : B ≤ 64 * 12 := by rw [← hB]; exact Nat.mul_le_mul hk1.2 hpw
  have HR1 : Hid (∀ (g c : Nat) W, Bk W g 5 #[.int .u8 0] → Calls Try.prog 22 #[.slice (some ⟨g, 0, none⟩) 1 c, .int .i64 (k : Int)] W fun e w' => ∃ g' c' : Nat, e = .returned (.slice (some ⟨g', 0, none⟩) N0 c') ∧ Rd w' (some ⟨g', 0, none⟩) N0 ([0] ++ bytesOf (k : Int)) ∧ Bel W w') := fun g c W hbk => by
    have h9 := rputn g c 1 [0] (k : Int) a1' q0 hq0 rfl (by omega) W (Pk.rd_bk (L := [0]) hbk (by decide) 1 rfl)
    rw [hN0] at h9
    exact h9
  have HR2 : Hid (∀ (g c : Nat) W, Rd W (some ⟨g, 0, none⟩) N0 ([0] ++ bytesOf (k : Int)) → Calls Try.prog 22 #[.slice (some ⟨g, 0, none⟩) N0 c, .int .i64 m] W fun e w' => ∃ g' c' : Nat, e = .returned (.slice (some ⟨g', 0, none⟩) N1 c') ∧ Rd w' (some ⟨g', 0, none⟩) N1 ([0] ++ bytesOf (k : Int) ++ bytesOf m) ∧ Bel W w') := fun g c W hr => by
    have h9 := rputn g c N0 _ m a2' q1 hq1 hr.1 (by omega) W hr
    rw [hN1] at h9
    exact h9
  have HR3 : Hid (∀ (g c : Nat) W, Rd W (some ⟨g, 0, none⟩) N1 ([0] ++ bytesOf (k : Int) ++ bytesOf m) → Calls Try.prog 22 #[.slice (some ⟨g, 0, none⟩) N1 c, .int .i64 (d : Int)] W fun e w' => ∃ g' c' : Nat, e = .returned (.slice (some ⟨g', 0, none⟩) N2 c') ∧ Rd w' (some ⟨g', 0, none⟩) N2 ([0] ++ bytesOf (k : Int) ++ bytesOf m ++ bytesOf (d : Int)) ∧ Bel W w') := fun g c W hr => by
    have h9 := rputn g c N1 _ (d : Int) a3' q2 hq2 hr.1 (by omega) W hr
    rw [hN2] at h9
    exact h9
  have HR4 : Hid (∀ (g c : Nat) W, Rd W (some ⟨g, 0, none⟩) N2 ([0] ++ bytesOf (k : Int) ++ bytesOf m ++ bytesOf (d : Int)) → Calls Try.prog 22 #[.slice (some ⟨g, 0, none⟩) N2 c, .int .i64 s] W fun e w' => (∃ g' c' : Nat, e = .returned (.slice (some ⟨g', 0, none⟩) N3 c')) ∧ Bel W w') := fun g c W hr => by
    have h9 := rputn g c N2 _ s a4' q3 hq3 hr.1 (by omega) W hr
    rw [hN3] at h9
    refine h9.mono ?_
    rintro e w' ⟨g', c', he, _, hb'⟩
    exact ⟨⟨g', c', he⟩, hb'⟩
  have HE1 : Hid (∀ W, Bel v2 W → _) := fun W hW => enc_ok h 0 c0 k x hv hk W (hz.bel hW)
  have HMM : Hid (∀ W, Bel v2 W → Calls Try.prog 15 #[.slice (some ⟨h, 0, none⟩) k c0] W fun e w' => e = .returned (.agg #[.int .i64 0, .int .i64 (k : Int), .int .i64 m, .int .i64 M, .int .i64 s]) ∧ Bel W w') := fun W hW => by
    have h9 := meas_ok (some ⟨h, 0, none⟩) c0 k x hv hk W (hz.bel hW)
    rw [hm, hM, hs] at h9
    exact h9
  have HWD : Hid (∀ (g : Nat) W, Bk W g 3 #[.int .i64 (d : Int)] → Calls Try.prog 23 #[.slice (some ⟨g, 0, none⟩) 1 1] W fun e w' => e = .returned (.int .i64 (b : Int)) ∧ Bel W w') := fun g W hb' => by
    have h9 := rwidth1 d g (by omega) W hb'
    rw [hb] at h9
    exact h9
  have HV := Lib.hid hv
  have HN := Lib.hid hn
  have hNH : n ≤ H + V ∧ (m = M → n = H) := ⟨by omega, fun e => by have := s3 e; omega⟩
  have HNH := Lib.hid hNH.2
  have hHb : H ≤ 45 ∧ N3 ≤ 41 := by omega
  have eD : M - m = (d : Int) := hD.symm
  have eDw : IntKind.i64.wrap (d : Int) = (d : Int) := IntWalk.i64_in _ (by omega)
  have bD : (d : Int) ≤ 2000 := by omega
  have eH : (N3 : Int) + 4 = (H : Int) := by omega
  have eHw : IntKind.i64.wrap (H : Int) = (H : Int) := IntWalk.i64_in _ (by omega)
  have eB : (k : Int) * (b : Int) = (B : Int) := by rw [← hB]; simp
  have eBw : IntKind.i64.wrap (B : Int) = (B : Int) := IntWalk.i64_in _ (by omega)
  have eV : ((B : Int) + 7) / 8 = (V : Int) := sh_q hV
  have bB : (B : Int) ≤ 768 := (sh_b hV hBb).1
  have eL : (n : Int) ≤ (H : Int) + (V : Int) := sh_l hNH.1
  have bV : (V : Int) ≤ 97 := (sh_b hV hBb).2
  have bH : (H : Int) ≤ 45 := sh_h hHb.1
  have HLAST := Lib.hid (And.intro eV (And.intro eL (And.intro bV bH)))
  have HMID := Lib.hid (And.intro eB (And.intro eBw bB))
  clear eV eL bV eB eBw bB
  clear hNH hz hv hk ho2 hc2 hn hsz s1 s2 s3 hB hV hH hN0 hN1 hN2 hN3 hq0 hq1 hq2 hq3 hql hm hM hs hd hb a1' a2' a3' a4' hD hHb hpw hDl hmn hmx hBb
  go_upto_region 3 with (go_at_call 15; refine (HMM.out _ (by first | exact Bel.rf | exact Bel.rf.drwN _)).mono ?_; rintro e wa ⟨rfl, hba⟩; have HBA : Hid (Bel v2 wa) := (by first | exact hba | exact (Bel.rf.drwN _).tr hba); clear hba)
  obtain ⟨WB, hWB⟩ : ∃ WB, wa.alloc (.cells #[.int .i64 0, .int .i64 (k : Int), .int .i64 m, .int .i64 M, .int .i64 s] 34) = WB := ⟨_, rfl⟩
  rw [hWB]
  have HKB : Hid (Bk WB wa.heap.size 34 #[.int .i64 0, .int .i64 (k : Int), .int .i64 m, .int .i64 M, .int .i64 s]) := by rw [← hWB]; exact Bk.nw _ _ _
  have HBB : Hid (Bel v2 WB) := by rw [← hWB]; exact HBA.out.al _
  clear hWB
  go_wp2_with fail
  go_at_call 11
  refine (HE1.out _ (by first | exact HBB.out | exact HBB.out.drwN _)).mono ?_
  rintro e v5 ⟨u0, rfl, ho5, hb5⟩
  have HB5 : Hid (Bel WB v5) := by first | exact hb5 | exact (Bel.rf.drwN _).tr hb5
  obtain ⟨h1, c1, rfl, _, _, _, _⟩ := own_rd ho5 (seg_byte HV.out) rfl (by rw [HN.out]; omega)
  rw [HN.out]
  have hk5 := HKB.out.bel HB5.out
  have p0 := hk5.cell 0
  have p1 := hk5.cell 1
  have p2 := hk5.cell 2
  have p3 := hk5.cell 3
  have p4 := hk5.cell 4
  simp only [List.getElem?_toArray, List.getElem?_cons_zero, List.getElem?_cons_succ] at p0 p1 p2 p3 p4
  have KS : Hid (∀ W', Bel v5 W' → (W'.cell? ⟨wa.heap.size, 1, none⟩ = some (.int .i64 (k : Int)) ∧ W'.cell? ⟨wa.heap.size, 2, none⟩ = some (.int .i64 m) ∧ W'.cell? ⟨wa.heap.size, 3, none⟩ = some (.int .i64 M) ∧ W'.cell? ⟨wa.heap.size, 4, none⟩ = some (.int .i64 s))) := fun W' h => ⟨h.kp p1, h.kp p2, h.kp p3, h.kp p4⟩
  have HK5 := Lib.hid hk5
  clear ho5 hb5 p0 p1 p2 p3 p4 hk5
  go_upto_region 4 with fail
  go_region_held3 (fun W' => W'.cell? ⟨wa.heap.size, 1, none⟩ = some (.int .i64 (k : Int)) ∧ W'.cell? ⟨wa.heap.size, 2, none⟩ = some (.int .i64 m) ∧ W'.cell? ⟨wa.heap.size, 3, none⟩ = some (.int .i64 M) ∧ W'.cell? ⟨wa.heap.size, 4, none⟩ = some (.int .i64 s))
    (first
      | (refine KS.out _ ?_; (repeat (first | exact Bel.rf | exact HX4.out | exact HX3.out | exact HX2.out | exact HX1.out | (with_reducible refine Bel.drwN ?_ _) | (with_reducible refine Bel.drw ?_) | (with_reducible refine Bel.al ?_ _))); done))
    (first
      | (go_at_call 22; (with_reducible refine (HR1.out _ _ _ (by first | exact (Bk.nq _ _ _ rfl).drw | exact Bk.nq _ _ _ rfl)).mono ?_); rintro e x1 ⟨g1, c1', rfl, hr1, hx1⟩; have HX1 : Hid (Bel v5 x1) := Bel.tr (by repeat (first | exact Bel.rf | (with_reducible refine Bel.drwN ?_ _) | (with_reducible refine Bel.drw ?_) | (with_reducible refine Bel.al ?_ _))) hx1; have HQ1 := Lib.hid hr1; clear hr1 hx1)
      | (go_at_call 22; (with_reducible refine (HR2.out _ _ _ (HQ1.out.bel (by repeat (first | exact Bel.rf | (with_reducible refine Bel.drwN ?_ _) | (with_reducible refine Bel.drw ?_) | (with_reducible refine Bel.al ?_ _))))).mono ?_); rintro e x2 ⟨g2, c2', rfl, hr2, hx2⟩; have HX2 : Hid (Bel v5 x2) := Bel.tr HX1.out (Bel.tr (by repeat (first | exact Bel.rf | (with_reducible refine Bel.drwN ?_ _) | (with_reducible refine Bel.drw ?_) | (with_reducible refine Bel.al ?_ _))) hx2); have HQ2 := Lib.hid hr2; clear hr2 hx2)
      | (go_at_call 22; (with_reducible refine (HR3.out _ _ _ (HQ2.out.bel (by repeat (first | exact Bel.rf | (with_reducible refine Bel.drwN ?_ _) | (with_reducible refine Bel.drw ?_) | (with_reducible refine Bel.al ?_ _))))).mono ?_); rintro e x3 ⟨g3, c3', rfl, hr3, hx3⟩; have HX3 : Hid (Bel v5 x3) := Bel.tr HX2.out (Bel.tr (by repeat (first | exact Bel.rf | (with_reducible refine Bel.drwN ?_ _) | (with_reducible refine Bel.drw ?_) | (with_reducible refine Bel.al ?_ _))) hx3); have HQ3 := Lib.hid hr3; clear hr3 hx3)
      | (go_at_call 22; (with_reducible refine (HR4.out _ _ _ (HQ3.out.bel (by repeat (first | exact Bel.rf | (with_reducible refine Bel.drwN ?_ _) | (with_reducible refine Bel.drw ?_) | (with_reducible refine Bel.al ?_ _))))).mono ?_); rintro e x4 ⟨⟨g4, c4', rfl⟩, hx4⟩; have HX4 : Hid (Bel v5 x4) := Bel.tr HX3.out (Bel.tr (by repeat (first | exact Bel.rf | (with_reducible refine Bel.drwN ?_ _) | (with_reducible refine Bel.drw ?_) | (with_reducible refine Bel.al ?_ _))) hx4); clear hx4))
  all_goals
    have HXX : Hid (Bel v5 x4) := HX4.out
    obtain ⟨p1, p2, p3, p4⟩ := KS.out x4 HX4.out
    clear HX1 HX2 HX3 HX4 HQ1 HQ2 HQ3 HR1 HR2 HR3 HR4 HE1 HMM
    clear eH eHw bH
    obtain ⟨eB, eBw, bB⟩ := HMID.out
    go_upto_region 6 with (go_at_call 23; (with_reducible refine (HWD.out _ _ (Bk.nq _ _ _ rfl)).mono ?_); rintro e x5 ⟨rfl, hx5⟩; have HX5 : Hid (Bel v5 x5) := HXX.out.tr ((Bel.rf.al _).tr hx5); clear hx5)
    clear p1 p2 p3 p4
    obtain ⟨p1, p2, p3, p4⟩ := KS.out x5 HX5.out
    have hN2 := HNH.out
    clear eB eBw eD eDw bD
    obtain ⟨eV, eL, bV, bH⟩ := HLAST.out
    rcases Classical.em (m = M) with hmm | hmm
    · have hnn := hN2 hmm
      subst hmm
      subst hnn
      have r1 : (m != m) = false := by simp
      have r2 : ((n : Int) == (n : Int)) = true := by simp
      clear hN2
      go_wp2_with (go_at_call 8; refine (AW.out _).mono ?_; rintro e w9 ⟨rfl, hb9⟩)
      go_ret
      exact ⟨rfl, (HB2.out.tr (HBB.out.tr (HB5.out.tr (HX5.out.tr (by first | exact hb9 | exact (Bel.rf.drwN _).tr hb9))))).bl⟩
    · have r1 : (m != M) = true := by simpa using hmm
      clear hN2 hmm
      go_wp2_with (go_at_call 8; refine (AW.out _).mono ?_; rintro e w9 ⟨rfl, hb9⟩)
      go_ret
      exact ⟨rfl, (HB2.out.tr (HBB.out.tr (HB5.out.tr (HX5.out.tr (by first | exact hb9 | exact (Bel.rf.drwN _).tr hb9))))).bl⟩

set_option maxRecDepth 100000 in
theorem lifted (os : Os) (started : os.Started) (H : Type) (enc : TypeId × Value → H) :
    ReturnsInHanded {} Try.checked os 6 .any (Rows.segmentShortSpec.pre6 enc Try.prog Try.f6 Rows.segmentShortRow.domain false) (Rows.segmentShortSpec.post enc Try.prog Try.f6 false true false false) := by
  refine returnsInHanded_of_change (C := Try.checked) own started (by kernel_rfl) Try.func6
    (ChangeSpec.witness6 (enc := enc) (C := Try.checked) false ⟨#[], #[.slice none 0 0], []⟩ 8 (by kernel_rfl) (by kernel_rfl) (by kernel_rfl) (by kernel_rfl)) ?_
  intro W base args ds gs before hval0 hW hcnd _
  have hval : ∀ (j : Nat) t v, Try.f6.params[j]? = some t → args[j]? = some v → Value.okWide Try.prog W .any base t v := hval0
  have hW' := hW
  obtain ⟨p, q, hA0, hV, rfl, hfz, hnd⟩ := hW
  have hA : DataW.TrodAll enc Try.prog W 0 (fun _ => true) true Try.f6.params.toList args.toList ds p := hA0
  rw [Try.params6] at hA hval
  obtain ⟨v0, vs0, d0, ds0, p0, q0, hargs, rfl, rfl, h0, r0⟩ := trodAll_cons hA
  obtain ⟨rfl, rfl, rfl⟩ := trodAll_nil r0
  obtain rfl : args = #[v0] := by cases args; simp_all
  obtain ⟨rfl, rfl⟩ := trodVars_none hV
  obtain ⟨a0, len0, cap0, rfl⟩ := okWide_slice Try.underlying22 (hval 0 22 v0 rfl rfl)
  have k0 := h0
  have lt0 : ∀ x ∈ p0, x.block < W.heap.size := by obtain ⟨m, hm⟩ := k0; exact DataW.trod_lt m _ _ _ hm
  obtain ⟨z0, w0⟩ : ∃ zs, IsRow .i64 W a0 len0 cap0 zs := by
    obtain ⟨fuel, hf⟩ := h0
    rcases open_ints Try.underlying22 Try.underlying3 (by kernel_rfl) hf with ⟨hcs, _⟩ | ⟨x, l, c, zs, hcs, _, hl, hm, hz, _, hcell, hwz⟩
    · simp [Value.cells] at hcs
      obtain ⟨rfl, rfl, rfl⟩ := hcs
      exact ⟨[], .inl ⟨rfl, rfl, rfl, rfl⟩⟩
    · simp [Value.cells] at hcs
      obtain ⟨rfl, rfl, rfl⟩ := hcs
      exact ⟨zs, .inr ⟨_, rfl, hl, hm, by simpa using hz, hcell, hwz⟩⟩
  clear hA0 hval0
  refine (walk a0 len0 cap0 z0 W w0).mono fun e W' ⟨he, bel⟩ => ?_
  subst he
  exact ⟨_, rfl, _, _, _, [], _, [], hW', trodAll_mk1 (shut_bool Try.underlying4 _), (trodAll_cons_mk (Below.trod laidOut (by kernel_rfl) (of_decide_eq_true (by kernel_rfl)) k0 bel lt0) trodAll_mk0), rfl, bel.frame _, fun h => by cases h⟩

theorem over : Rows.segmentShortRow.holds Try.pinned (OpenSpec.ofChange Rows.segmentShortSpec) :=
  OpenClaim.holds_of_wide 6 Try.f6 rfl rfl rfl rfl rfl rfl rfl ⟨rfl, rfl, rfl, rfl, rfl⟩ rfl rfl rfl rfl rfl (by kernel_rfl) Try.func6 (by kernel_rfl)
    (of_decide_eq_true (by kernel_rfl)) (by unfold Func.isWrapper; first | (rw [if_pos (by decide +kernel)]; kernel_rfl) | (rw [if_neg (by decide +kernel)]; exact ⟨rfl, rfl⟩))
    (fun os started H enc _ => lifted os started H enc)

theorem proved : Rows.SegmentShortSaid := over
end Go.Proofs.Ytaplbkfmedofcaa.segmentShort
