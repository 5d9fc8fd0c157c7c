/- That the law WordRefines returns true for every input that can be read, and leaves its arguments as they were; no further condition. -/
import Derived.Test.YtgdhgeongdenpaaRows
import Derived.WalkKit
import Derived.ProofKit
import Derived.OpenShut
import Derived.Test.YtgdhgeongdenpaaWords
import Derived.Test.YtgdhgeongdenpaaSrcNew0
import Derived.Test.YtgdhgeongdenpaaWd13
import Derived.Test.YtgdhgeongdenpaaWd9
import Derived.Test.YtgdhgeongdenpaaWd15
import Derived.Test.YtgdhgeongdenpaaWdR
import Derived.ShutString
import Derived.ChangeOld
import Derived.Below
namespace Go.Proofs.Ytgdhgeongdenpaa.wordRefines
open Go.ChangeShapes Go.WideShapes Go.ChangeAt Go.RowKit Wo
open Go.ChangeMaps (open_string shut_string)
set_option linter.unusedVariables false

theorem own : ownKnob Try.prog.godebug = none := by kernel_rfl
theorem laidOut : laidOutB Try.prog = true := by kernel_rfl

/-- WHAT THE WALK IS TOLD OF A SLICE OF INTEGERS THAT CAME IN: it is nil; or it leads to a row of 'cap' cells, the numbers 'zs' (the first 'len' are its elements, the rest its spare room), each fitting its kind. -/
def IsRow (k : IntKind) (w : World) (a : Option Addr) (len cap : Nat) (zs : List Int) : Prop :=
  (a = none ∧ len = 0 ∧ cap = 0 ∧ zs = []) ∨
  ∃ x, a = some x ∧ len ≤ cap ∧ cap ≤ maxLen ∧ zs.length = cap ∧ (∀ i, i < zs.length → w.cell? (x.add i) = some (.int k (zs.getD i 0))) ∧ ∀ n ∈ zs, (Lit.int k n).wf = true

open Go.Proofs.Ytgdhgeongdenpaa.Wd Go.Proofs.Ytgdhgeongdenpaa.Rt Go.Proofs.Ytgdhgeongdenpaa.Nr Go.Proofs.Ytgdhgeongdenpaa.Pc Go.Proofs.Ytgdhgeongdenpaa.Wi Go.Proofs.Ytgdhgeongdenpaa.Wo Go.Proofs.Ytgdhgeongdenpaa.Sr in
set_option maxHeartbeats 16000000 in
set_option maxRecDepth 100000 in
set_option linter.unusedSimpArgs false in
theorem walk (a0 : Option Addr) (len0 cap0 : Nat) (z0 : List Int) (a1 : Int) (w : World) (w0 : IsRow .i64 w a0 len0 cap0 z0) (w1 : (Lit.int .i16 a1).wf = true) :
    Calls Try.prog 5 #[.slice a0 len0 cap0, .int .i16 a1] w fun e w' => e = .returned (.bool true) ∧ Below w.heap.size w w' := by
  have AW : Hid (∀ W, Calls Try.prog 19 #[] W fun e w' => e = .returned (.bool true) ∧ Bel W w') := awake_any
  go_enter Try.func5, Try.ntmps5
  go_wp2_with fail
  go_at_call 10
  refine (new_any a0 len0 cap0 z0 w w0).mono ?_
  rintro e v1 ⟨g, rfl, hg, ho1, hb1⟩
  have HO1 := Lib.hid ho1
  have HB1 := Lib.hid hb1
  clear ho1 hb1 w0
  go_wp2_with fail
  go_at_call 11
  refine (scheme_any g _ (HO1.out.bel (by repeat (first | exact Bel.rf | (with_reducible refine Bel.drwN ?_ _) | (with_reducible refine Bel.drw ?_) | (with_reducible refine Bel.al ?_ _))))).mono ?_
  rintro e v2 ⟨k, b, q, m, n, A, nc, cc, C, rfl, hs, hown, hCl, ho2, hc2⟩
  have HS := Lib.hid hs
  have HO2 := Lib.hid ho2
  have HGL : Hid (g < v1.heap.size) := HO1.out.lt
  have HB2 : Hid (Bel w v2) := Bel.ch HB1.out ((Ch.of_bel (by repeat (first | exact Bel.rf | (with_reducible refine Bel.drwN ?_ _) | (with_reducible refine Bel.drw ?_) | (with_reducible refine Bel.al ?_ _)))).tr hc2) hg
  have HFA : Hid (Fz v1 A nc) := own_fz hown (by first | exact Nat.le_refl _ | (simp; done))
  obtain ⟨A', c', e', hz⟩ := own_zx hown hCl
  cases e'
  have HZ2 := Lib.hid hz
  have n1 := hs.n1
  have n8 := hs.n8
  have HN1 := Lib.hid n1
  have ni : (n : Int) ≤ 8 := by omega
  have ni1 : 1 ≤ (n : Int) := by omega
  have HG := Lib.hid hg
  clear hs hown hCl ho2 hc2 hz hg
  unfold Sx
  go_wp2_with fail
  go_at_call 15
  refine (word_any g k b q m n n8 A nc cc _ (HO2.out.bel (by repeat (first | exact Bel.rf | (with_reducible refine Bel.drwN ?_ _) | (with_reducible refine Bel.drw ?_) | (with_reducible refine Bel.al ?_ _))))).mono ?_
  rintro e v3 ⟨sA, bA, sc, bc, S, B, rfl, hv, hS, hB, ho3, hc3, fS, fB⟩
  have hc23 : Ch g v2 v3 := (Ch.of_bel (by repeat (first | exact Bel.rf | (with_reducible refine Bel.drwN ?_ _) | (with_reducible refine Bel.drw ?_) | (with_reducible refine Bel.al ?_ _)))).tr hc3
  have HB3 : Hid (Bel w v3) := Bel.ch HB2.out hc23 HG.out
  have HX3 : Hid (Bk v3 v2.heap.size 28 #[.int .i64 k, .int .i64 b, .int .i64 q, .int .i64 (m : Int), .int .i64 (n : Int), .slice A nc cc]) := hc3.bk (by repeat (first | (refine Bk.nq _ _ _ ?_; simp; done) | (with_reducible refine Bk.drwN ?_ _) | (with_reducible refine Bk.drw ?_) | (with_reducible refine Bk.al ?_ _))) (by have := HO2.out.lt; omega)
  have HZ3 : Hid (Zi v3 A nc C ∧ Zi v3 sA n S ∧ Zi v3 bA n B) := ⟨zi_fz HZ2.out hc23 HFA.out HGL.out, hS, hB⟩
  have HF3 : Hid (Fz v2 sA n ∧ Fz v2 bA n) := ⟨fun h0 ad e => Nat.le_trans (by (try simp)) (fS h0 ad e), fun h0 ad e => Nat.le_trans (by (try simp)) (fB h0 ad e)⟩
  have HV := Lib.hid hv
  have HO3 := Lib.hid ho3
  have q4 := HX3.out.cell 4
  simp only [List.getElem?_toArray, List.getElem?_cons_zero, List.getElem?_cons_succ] at q4
  have q4a := fun o => (Bel.rf.al o).kp q4
  clear hc3 hc23 hS hB ho3 fS fB hv
  unfold Wx
  go_wp2_with fail
  go_at_call 21
  refine (n_any g (n : Int) ni1 (by omega) _ (HO3.out.bel (by repeat (first | exact Bel.rf | (with_reducible refine Bel.drwN ?_ _) | (with_reducible refine Bel.drw ?_) | (with_reducible refine Bel.al ?_ _))))).mono ?_
  rintro e v4 ⟨y, rfl, y0, yn, ho4, hc4⟩
  obtain ⟨p, rfl⟩ := Int.eq_ofNat_of_zero_le y0
  have hp : p < n := by omega
  have hc34 : Ch g v3 v4 := (Ch.of_bel (by repeat (first | exact Bel.rf | (with_reducible refine Bel.drwN ?_ _) | (with_reducible refine Bel.drw ?_) | (with_reducible refine Bel.al ?_ _)))).tr hc4
  have HB4 : Hid (Bel w v4) := Bel.ch HB3.out hc34 HG.out
  have hg3 : g ≠ v3.heap.size := by have := HO3.out.lt; omega
  have HX4 : Hid (Bk v4 v2.heap.size 28 #[.int .i64 k, .int .i64 b, .int .i64 q, .int .i64 (m : Int), .int .i64 (n : Int), .slice A nc cc] ∧ Bk v4 v3.heap.size 32 #[.slice sA n sc, .slice bA n bc]) := ⟨hc34.bk HX3.out (by have := HO2.out.lt; omega), hc4.bk (by repeat (first | (refine Bk.nq _ _ _ ?_; simp; done) | (with_reducible refine Bk.drwN ?_ _) | (with_reducible refine Bk.drw ?_) | (with_reducible refine Bk.al ?_ _))) (fun e => hg3 e.symm)⟩
  have HZ4 : Hid (Zi v4 A nc C ∧ Zi v4 sA n S ∧ Zi v4 bA n B) := ⟨zi_fz HZ3.out.1 hc34 HFA.out HGL.out, zi_fz HZ3.out.2.1 hc34 HF3.out.1 HO2.out.lt, zi_fz HZ3.out.2.2 hc34 HF3.out.2 HO2.out.lt⟩
  have HPN := Lib.hid hp
  have SP : Hid (∀ W, Bel v4 W → Calls Try.prog 22 #[.agg #[.int .i64 k, .int .i64 b, .int .i64 q, .int .i64 (m : Int), .int .i64 (n : Int), .slice A nc cc], .agg #[.slice sA n sc, .slice bA n bc], .int .i64 (p : Int)] W (SomeSp n p S B W)) := fun W hW => split_ok k b q m n A sA bA nc cc sc bc C S B HS.out HV.out p HPN.out W (HZ4.out.1.bel hW) (HZ4.out.2.1.bel hW) (HZ4.out.2.2.bel hW)
  have RW : Hid (∀ sA bA sc bc S B W, Wv n S B → Bel v4 W → Zi W sA n S → Zi W bA n B → Calls Try.prog 17 #[.agg #[.int .i64 k, .int .i64 b, .int .i64 q, .int .i64 (m : Int), .int .i64 (n : Int), .slice A nc cc], .agg #[.slice sA n sc, .slice bA n bc]] W (SomeIv n (rgn n C S B) W)) := fun sA bA sc bc S B W hv hW hS hB => region_ok k b q m n A sA bA nc cc sc bc C S B HS.out hv W (HZ4.out.1.bel hW) hS hB
  have q0 := HX4.out.1.cell 0
  have q1 := HX4.out.1.cell 1
  have q2 := HX4.out.1.cell 2
  have q3 := HX4.out.1.cell 3
  replace q4 := HX4.out.1.cell 4
  have q5 := HX4.out.1.cell 5
  have u0 := HX4.out.2.cell 0
  have u1 := HX4.out.2.cell 1
  simp only [List.getElem?_toArray, List.getElem?_cons_zero, List.getElem?_cons_succ] at q0 q1 q2 q3 q4 q5 u0 u1
  clear hc4 hc34 ho4 hg3 yn y0 q4a
  go_wp2_with fail
  go_at_call 22
  refine (SP.out _ (by repeat (first | exact Bel.rf | (with_reducible refine Bel.drwN ?_ _) | (with_reducible refine Bel.drw ?_) | (with_reducible refine Bel.al ?_ _)))).mono ?_
  rintro e v5 ⟨h4, hn4, hb5⟩
  have HB5 : Hid (Bel v4 v5) := Bel.tr (by repeat (first | exact Bel.rf | (with_reducible refine Bel.drwN ?_ _) | (with_reducible refine Bel.drw ?_) | (with_reducible refine Bel.al ?_ _))) hb5
  obtain ⟨bad, e', _, _⟩ := HZ4.out.2.2.2 (by omega)
  subst e'
  have HBD : Hid (∀ W, Bel v4 W → W.cell? (bad.add p) = some (.int .i64 (B.getD p 0))) := fun W hW => by
    obtain ⟨ad', e', _, hd⟩ := (HZ4.out.2.2.bel hW).2 (by have := HPN.out; omega)
    cases e'
    exact hd p HPN.out
  have pp : (p : Int) < (n : Int) := by omega
  have pp0 : (0 : Int) ≤ (p : Int) := by omega
  have w1' := bounds_i16 w1
  have HA1 := Lib.hid w1'
  clear w1 w1'
  by_cases hy : B.getD p 0 = 4
  · obtain rfl := h4 hy
    rw [hy] at HBD
    have d1 := fun o o2 => ((Bel.rf.al o).al o2).kp (HBD.out v5 HB5.out)
    have x1 := fun o o2 => ((Bel.rf.al o).al o2).kp (HB5.out.kp u1)
    clear h4 hn4 hb5 q0 q1 q2 q3 q4 q5 u0 u1 hy
    go_wp2_with (go_at_call 19; refine (AW.out _).mono ?_; rintro e v9 ⟨rfl, h9⟩; have HB9 : Hid (Bel v5 v9) := Bel.tr (by repeat (first | exact Bel.rf | (with_reducible refine Bel.drwN ?_ _) | (with_reducible refine Bel.drw ?_) | (with_reducible refine Bel.al ?_ _))) h9; clear h9)
    go_ret
    exact ⟨rfl, (HB4.out.tr (HB5.out.tr HB9.out)).bl⟩
  · obtain ⟨s1, b1, s2, b2, e1, f1, e2, f2, rfl, hz1, hz2, hz3, hz4⟩ := hn4 hy
    have HV1 : Hid (Wv n (S.set p (2 * S.getD p 0 + 0)) (B.set p (B.getD p 0 + 1))) := wv_split HV.out HPN.out hy 0 (by decide) (by decide)
    have HV2 : Hid (Wv n (S.set p (2 * S.getD p 0 + 1)) (B.set p (B.getD p 0 + 1))) := wv_split HV.out HPN.out hy 1 (by decide) (by decide)
    have HY := Lib.hid hy
    have HPL : Hid (∀ i, i < n → ∀ N : Int, -700 ≤ N → N ≤ 700 → _) := fun i hi N h1 h2 => rgn_split HS.out.cv HV.out HPN.out hy hi N h1 h2
    have HR : Hid (∀ S B, (rgn n C S B).length = n) := fun S B => rgn_len n C S B
    obtain ⟨L0, hL0⟩ : ∃ L, rgn n C S B = L := ⟨_, rfl⟩
    obtain ⟨L1, hL1⟩ : ∃ L, rgn n C (S.set p (2 * S.getD p 0 + 0)) (B.set p (B.getD p 0 + 1)) = L := ⟨_, rfl⟩
    obtain ⟨L2, hL2⟩ : ∃ L, rgn n C (S.set p (2 * S.getD p 0 + 1)) (B.set p (B.getD p 0 + 1)) = L := ⟨_, rfl⟩
    have HLL : Hid (L0.length = n ∧ L1.length = n ∧ L2.length = n) := ⟨by rw [← hL0]; exact HR.out _ _, by rw [← hL1]; exact HR.out _ _, by rw [← hL2]; exact HR.out _ _⟩
    rw [hL0, hL1, hL2] at HPL
    have R0 : Hid (∀ W, Bel v4 W → Calls Try.prog 17 #[.agg #[.int .i64 k, .int .i64 b, .int .i64 q, .int .i64 (m : Int), .int .i64 (n : Int), .slice A nc cc], .agg #[.slice sA n sc, .slice (some bad) n bc]] W (SomeIv n L0 W)) := fun W hW => by rw [← hL0]; exact RW.out _ _ _ _ S B W HV.out hW (HZ4.out.2.1.bel hW) (HZ4.out.2.2.bel hW)
    have R1 : Hid (∀ W, Bel v5 W → Calls Try.prog 17 #[.agg #[.int .i64 k, .int .i64 b, .int .i64 q, .int .i64 (m : Int), .int .i64 (n : Int), .slice A nc cc], .agg #[.slice s1 n e1, .slice b1 n f1]] W (SomeIv n L1 W)) := fun W hW => by rw [← hL1]; exact RW.out _ _ _ _ _ _ W HV1.out (HB5.out.tr hW) (hz1.bel hW) (hz2.bel hW)
    have R2 : Hid (∀ W, Bel v5 W → Calls Try.prog 17 #[.agg #[.int .i64 k, .int .i64 b, .int .i64 q, .int .i64 (m : Int), .int .i64 (n : Int), .slice A nc cc], .agg #[.slice s2 n e2, .slice b2 n f2]] W (SomeIv n L2 W)) := fun W hW => by rw [← hL2]; exact RW.out _ _ _ _ _ _ W HV2.out (HB5.out.tr hW) (hz3.bel hW) (hz4.bel hW)
    have KQ : Hid (∀ W, Bel v4 W → W.cell? ⟨v2.heap.size, 0, none⟩ = some (.int .i64 k) ∧ W.cell? ⟨v2.heap.size, 1, none⟩ = some (.int .i64 b) ∧ W.cell? ⟨v2.heap.size, 2, none⟩ = some (.int .i64 q) ∧ W.cell? ⟨v2.heap.size, 3, none⟩ = some (.int .i64 (m : Int)) ∧ W.cell? ⟨v2.heap.size, 4, none⟩ = some (.int .i64 (n : Int)) ∧ W.cell? ⟨v2.heap.size, 5, none⟩ = some (.slice A nc cc)) := fun W hW => ⟨hW.kp q0, hW.kp q1, hW.kp q2, hW.kp q3, hW.kp q4, hW.kp q5⟩
    have HVW : Hid (Bel v5 ((v5.alloc (.cells #[.slice s1 n e1, .slice b1 n f1] 32)).alloc (.cells #[.slice s2 n e2, .slice b2 n f2] 32))) := (Bel.rf.al _).al _
    have HXA : Hid (Bk ((v5.alloc (.cells #[.slice s1 n e1, .slice b1 n f1] 32)).alloc (.cells #[.slice s2 n e2, .slice b2 n f2] 32)) v5.heap.size 32 #[.slice s1 n e1, .slice b1 n f1] ∧ Bk ((v5.alloc (.cells #[.slice s1 n e1, .slice b1 n f1] 32)).alloc (.cells #[.slice s2 n e2, .slice b2 n f2] 32)) (v5.heap.size + 1) 32 #[.slice s2 n e2, .slice b2 n f2]) := ⟨(Bk.nw _ _ _).al _, Bk.nq _ _ _ (by simp)⟩
    have HIW : Hid (∀ W, Bel v4 W → W.cell? ⟨v3.heap.size, 0, none⟩ = some (.slice sA n sc) ∧ W.cell? ⟨v3.heap.size, 1, none⟩ = some (.slice (some bad) n bc)) := fun W hW => ⟨hW.kp u0, hW.kp u1⟩
    have d1 := fun o o2 => ((Bel.rf.al o).al o2).kp (HBD.out v5 HB5.out)
    have x0 := fun o o2 => ((Bel.rf.al o).al o2).kp (HB5.out.kp u0)
    have x1 := fun o o2 => ((Bel.rf.al o).al o2).kp (HB5.out.kp u1)
    have y0 := fun o o2 => ((Bel.rf.al o).al o2).kp (HB5.out.kp q0)
    have y1 := fun o o2 => ((Bel.rf.al o).al o2).kp (HB5.out.kp q1)
    have y2 := fun o o2 => ((Bel.rf.al o).al o2).kp (HB5.out.kp q2)
    have y3 := fun o o2 => ((Bel.rf.al o).al o2).kp (HB5.out.kp q3)
    have y4 := fun o o2 => ((Bel.rf.al o).al o2).kp (HB5.out.kp q4)
    have y5 := fun o o2 => ((Bel.rf.al o).al o2).kp (HB5.out.kp q5)
    obtain ⟨bp, hbp⟩ : ∃ x, B.getD p 0 = x := ⟨_, rfl⟩
    rw [hbp] at hy d1
    have hy' : (bp == 4) = false := by simpa using hy
    clear h4 hn4 hb5 q0 q1 q2 q3 q4 q5 u0 u1 hz1 hz2 hz3 hz4 hL0 hL1 hL2 hbp RW SP
    unfold Wx
    go_wp2_with fail
    go_at_call 17
    refine (R0.out _ (HB5.out.tr (HVW.out.tr (by repeat (first | exact Bel.rf | (with_reducible refine Bel.drwN ?_ _) | (with_reducible refine Bel.drw ?_) | (with_reducible refine Bel.al ?_ _)))))).mono ?_
    rintro e v6 ⟨r0, rfl, _, hk0, hb6⟩
    have hv6 : Bel ((v5.alloc (.cells #[.slice s1 n e1, .slice b1 n f1] 32)).alloc (.cells #[.slice s2 n e2, .slice b2 n f2] 32)) v6 := Bel.tr (by repeat (first | exact Bel.rf | (with_reducible refine Bel.drwN ?_ _) | (with_reducible refine Bel.drw ?_) | (with_reducible refine Bel.al ?_ _))) hb6
    have HB6 : Hid (Bel v5 v6) := HVW.out.tr hv6
    have HXA6 : Hid (Bk v6 v5.heap.size 32 #[.slice s1 n e1, .slice b1 n f1] ∧ Bk v6 (v5.heap.size + 1) 32 #[.slice s2 n e2, .slice b2 n f2]) := ⟨HXA.out.1.bel hv6, HXA.out.2.bel hv6⟩
    have HK0 := Lib.hid hk0
    obtain ⟨q0, q1, q2, q3, q4, q5⟩ := KQ.out v6 (HB5.out.tr HB6.out)
    have t0 := HXA6.out.1.cell 0
    have t1 := HXA6.out.1.cell 1
    simp only [List.getElem?_toArray, List.getElem?_cons_zero, List.getElem?_cons_succ] at t0 t1
    clear hb6 hk0 hv6 x0 x1 y0 y1 y2 y3 y4 y5 d1
    go_wp2_with fail
    go_at_call 17
    refine (R1.out _ (HB6.out.tr (by repeat (first | exact Bel.rf | (with_reducible refine Bel.drwN ?_ _) | (with_reducible refine Bel.drw ?_) | (with_reducible refine Bel.al ?_ _))))).mono ?_
    rintro e v7 ⟨r1, rfl, _, hk1, hb7⟩
    have h67 : Bel v6 v7 := Bel.tr (by repeat (first | exact Bel.rf | (with_reducible refine Bel.drwN ?_ _) | (with_reducible refine Bel.drw ?_) | (with_reducible refine Bel.al ?_ _))) hb7
    have HB7 : Hid (Bel v5 v7) := HB6.out.tr h67
    have HXA7 : Hid (Bk v7 (v5.heap.size + 1) 32 #[.slice s2 n e2, .slice b2 n f2] ∧ Bk v7 r0 45 (rs L0).toArray) := ⟨HXA6.out.2.bel h67, HK0.out.bel h67⟩
    have HK1 := Lib.hid hk1
    clear q0 q1 q2 q3 q4 q5 t0 t1
    obtain ⟨q0, q1, q2, q3, q4, q5⟩ := KQ.out v7 (HB5.out.tr HB7.out)
    have t0 := HXA7.out.1.cell 0
    have t1 := HXA7.out.1.cell 1
    simp only [List.getElem?_toArray, List.getElem?_cons_zero, List.getElem?_cons_succ] at t0 t1
    clear hb7 hk1 h67
    go_wp2_with fail
    go_at_call 17
    refine (R2.out _ (HB7.out.tr (by repeat (first | exact Bel.rf | (with_reducible refine Bel.drwN ?_ _) | (with_reducible refine Bel.drw ?_) | (with_reducible refine Bel.al ?_ _))))).mono ?_
    rintro e v8 ⟨r2, rfl, _, hk2, hb8⟩
    have h78 : Bel v7 v8 := Bel.tr (by repeat (first | exact Bel.rf | (with_reducible refine Bel.drwN ?_ _) | (with_reducible refine Bel.drw ?_) | (with_reducible refine Bel.al ?_ _))) hb8
    have HB8 : Hid (Bel v5 v8) := HB7.out.tr h78
    have HKS : Hid (Bk v8 r0 45 (rs L0).toArray ∧ Bk v8 r1 45 (rs L1).toArray ∧ Bk v8 r2 45 (rs L2).toArray) := ⟨HXA7.out.2.bel h78, HK1.out.bel h78, hk2⟩
    clear q0 q1 q2 q3 q4 q5 t0 t1
    obtain ⟨q0, q1, q2, q3, q4, q5⟩ := KQ.out v8 (HB5.out.tr HB8.out)
    have nn := ne_self (n : Int)
    have wa : IntKind.i64.wrap a1 = a1 := IntWalk.i64_in _ (by have := HA1.out; omega)
    obtain ⟨N, hN⟩ : ∃ N, a1.tmod 700 = N := ⟨_, rfl⟩
    have HN : Hid (-700 ≤ N ∧ N ≤ 700) := by
      have h1 := Int.lt_tmod_of_pos a1 (show (0 : Int) < 700 by decide)
      have h2 := Int.tmod_lt_of_pos a1 (show (0 : Int) < 700 by decide)
      rw [hN] at h1 h2
      exact ⟨by omega, by omega⟩
    clear hb8 hk2 h78
    go_wp2_with fail
    go_loopw [111] (fun s wr => ∃ (i : Nat) (V : World), V = wr ∧ i ≤ n ∧ s = .int .i64 (i : Int) ∧ Bel v8 wr) (fun s _ => n - (intOf s).toNat)
    case atStart => exact ⟨0, _, rfl, by omega, rfl, (by repeat (first | exact Bel.rf | (with_reducible refine Bel.drwN ?_ _) | (with_reducible refine Bel.drw ?_) | (with_reducible refine Bel.al ?_ _)))⟩
    case round =>
      obtain ⟨i, wr, hwr, hi, rfl, hb⟩ := hrel
      subst hwr
      have HB := Lib.hid hb
      clear q0 q1 q2 q3 q4 q5 hb
      rcases Nat.lt_or_ge i n with hlt | hge
      · have ii : (i : Int) < (n : Int) := by omega
        have i0 : (0 : Int) ≤ (i : Int) := by omega
        have a0' := rs_at L0 i (by rw [HLL.out.1]; exact hlt)
        have a1' := rs_at L1 i (by rw [HLL.out.2.1]; exact hlt)
        have a2' := rs_at L2 i (by rw [HLL.out.2.2]; exact hlt)
        have hpl := HPL.out i hlt N HN.out.1 HN.out.2
        obtain ⟨P, hP⟩ : ∃ P, L0.getD i (0, 0) = P := ⟨_, rfl⟩
        obtain ⟨X, hX⟩ : ∃ P, L1.getD i (0, 0) = P := ⟨_, rfl⟩
        obtain ⟨Y, hY⟩ : ∃ P, L2.getD i (0, 0) = P := ⟨_, rfl⟩
        rw [hP] at a0' hpl
        rw [hX] at a1' hpl
        rw [hY] at a2' hpl
        obtain ⟨P1, P2⟩ := P
        obtain ⟨X1, X2⟩ := X
        obtain ⟨Y1, Y2⟩ := Y
        dsimp only at a0' a1' a2' hpl
        have KS : Hid (∀ W, Bel wr W → W.cell? (⟨r0, i * 2, none⟩ : Addr) = some (.int .i64 P1) ∧ W.cell? (⟨r0, i * 2 + 1, none⟩ : Addr) = some (.int .i64 P2) ∧ W.cell? (⟨r1, i * 2, none⟩ : Addr) = some (.int .i64 X1) ∧ W.cell? (⟨r1, i * 2 + 1, none⟩ : Addr) = some (.int .i64 X2) ∧ W.cell? (⟨r2, i * 2, none⟩ : Addr) = some (.int .i64 Y1) ∧ W.cell? (⟨r2, i * 2 + 1, none⟩ : Addr) = some (.int .i64 Y2)) := fun W hW => by
          have c0 := (HKS.out.1.bel (HB.out.tr hW)).cell (i * 2)
          have c1 := (HKS.out.1.bel (HB.out.tr hW)).cell (i * 2 + 1)
          have d0 := (HKS.out.2.1.bel (HB.out.tr hW)).cell (i * 2)
          have d1 := (HKS.out.2.1.bel (HB.out.tr hW)).cell (i * 2 + 1)
          have f0 := (HKS.out.2.2.bel (HB.out.tr hW)).cell (i * 2)
          have f1 := (HKS.out.2.2.bel (HB.out.tr hW)).cell (i * 2 + 1)
          rw [List.getElem?_toArray] at c0 c1 d0 d1 f0 f1
          rw [a0'.1] at c0; rw [a0'.2] at c1; rw [a1'.1] at d0; rw [a1'.2] at d1; rw [a2'.1] at f0; rw [a2'.2] at f1
          exact ⟨c0, c1, d0, d1, f0, f1⟩
        obtain ⟨c0, c1, _, _, _, _⟩ := KS.out wr Bel.rf
        have HPP := Lib.hid hpl
        clear a0' a1' a2' hpl hP hX hY
        obtain ⟨bI, hbI⟩ : ∃ x, decide (P1 ≤ N ∧ N ≤ P2) = x := ⟨_, rfl⟩
        obtain ⟨bL, hbL⟩ : ∃ x, decide (X1 ≤ N ∧ N ≤ X2) = x := ⟨_, rfl⟩
        obtain ⟨bR, hbR⟩ : ∃ x, decide (Y1 ≤ N ∧ N ≤ Y2) = x := ⟨_, rfl⟩
        have HBB := Lib.hid (And.intro hbI (And.intro hbL hbR))
        clear hbI hbL hbR
        go_upto_region 17 with fail
        go_cut [20] (fun s20 wx => ∃ V, V = wx ∧ s20 = .bool bI ∧ Bel wr wx)
        case first =>
          rcases Int.lt_or_le N P1 with pa | pa
          · have pa1 : ¬ P1 ≤ N := by omega
            have pa1' : decide (P1 ≤ N) = false := decide_eq_false pa1
            go_wp2_with fail
            go_meet
            exact ⟨_, rfl, congrArg Value.bool (HBB.out.1.symm.trans (decide_eq_false (fun h => Int.not_le.2 pa h.1))).symm, (by repeat (first | exact Bel.rf | (with_reducible refine Bel.drwN ?_ _) | (with_reducible refine Bel.drw ?_) | (with_reducible refine Bel.al ?_ _)))⟩
          · have pa1' : decide (P1 ≤ N) = true := decide_eq_true pa
            go_wp2_with fail
            go_meet
            exact ⟨_, rfl, congrArg Value.bool (by rw [← HBB.out.1]; simp [pa]), (by repeat (first | exact Bel.rf | (with_reducible refine Bel.drwN ?_ _) | (with_reducible refine Bel.drw ?_) | (with_reducible refine Bel.al ?_ _)))⟩
        case rest =>
        obtain ⟨wx, hwx, rfl, hbx⟩ := hcut
        subst hwx
        have HBX := Lib.hid hbx
        clear hbx c0 c1
        obtain ⟨c0, c1, c2, c3, c4, c5⟩ := KS.out wx HBX.out
        go_upto_region 18 with fail
        go_cut [21, 22] (fun s21 s22 wy => ∃ V, V = wy ∧ s21 = .bool bL ∧ s22 = .bool bR ∧ Bel wx wy)
        case first =>
          rcases Int.lt_or_le N X1 with xa | xa
          · have xa1 : ¬ X1 ≤ N := by omega
            have xa1' : decide (X1 ≤ N) = false := decide_eq_false xa1
            rcases Int.lt_or_le N Y1 with ya | ya
            · have ya1 : ¬ Y1 ≤ N := by omega
              have ya1' : decide (Y1 ≤ N) = false := decide_eq_false ya1
              go_quiet (fail)
              go_wp2_with fail
              go_meet
              exact ⟨_, rfl, congrArg Value.bool (HBB.out.2.1.symm.trans (decide_eq_false (fun h => Int.not_le.2 xa h.1))).symm, congrArg Value.bool (HBB.out.2.2.symm.trans (decide_eq_false (fun h => Int.not_le.2 ya h.1))).symm, (by repeat (first | exact Bel.rf | (with_reducible refine Bel.drwN ?_ _) | (with_reducible refine Bel.drw ?_) | (with_reducible refine Bel.al ?_ _)))⟩
            · have ya1' : decide (Y1 ≤ N) = true := decide_eq_true ya
              go_quiet (fail)
              go_wp2_with fail
              go_meet
              exact ⟨_, rfl, congrArg Value.bool (HBB.out.2.1.symm.trans (decide_eq_false (fun h => Int.not_le.2 xa h.1))).symm, congrArg Value.bool (by rw [← HBB.out.2.2]; simp [ya]), (by repeat (first | exact Bel.rf | (with_reducible refine Bel.drwN ?_ _) | (with_reducible refine Bel.drw ?_) | (with_reducible refine Bel.al ?_ _)))⟩
          · have xa1' : decide (X1 ≤ N) = true := decide_eq_true xa
            rcases Int.lt_or_le N Y1 with ya | ya
            · have ya1 : ¬ Y1 ≤ N := by omega
              have ya1' : decide (Y1 ≤ N) = false := decide_eq_false ya1
              go_quiet (fail)
              go_wp2_with fail
              go_meet
              exact ⟨_, rfl, congrArg Value.bool (by rw [← HBB.out.2.1]; simp [xa]), congrArg Value.bool (HBB.out.2.2.symm.trans (decide_eq_false (fun h => Int.not_le.2 ya h.1))).symm, (by repeat (first | exact Bel.rf | (with_reducible refine Bel.drwN ?_ _) | (with_reducible refine Bel.drw ?_) | (with_reducible refine Bel.al ?_ _)))⟩
            · have ya1' : decide (Y1 ≤ N) = true := decide_eq_true ya
              go_quiet (fail)
              go_wp2_with fail
              go_meet
              exact ⟨_, rfl, congrArg Value.bool (by rw [← HBB.out.2.1]; simp [xa]), congrArg Value.bool (by rw [← HBB.out.2.2]; simp [ya]), (by repeat (first | exact Bel.rf | (with_reducible refine Bel.drwN ?_ _) | (with_reducible refine Bel.drw ?_) | (with_reducible refine Bel.al ?_ _)))⟩
        case rest =>
        obtain ⟨wy, hwy, rfl, rfl, hby⟩ := hcut
        subst hwy
        have HBY : Hid (Bel v8 wy) := HB.out.tr (HBX.out.tr hby)
        have HWW : Hid (Bel wr wy) := HBX.out.tr hby
        clear hby c0 c1 c2 c3 c4 c5
        obtain ⟨c0, c1, c2, c3, c4, c5⟩ := KS.out wy HWW.out
        by_cases hip : i = p
        · have hm := HPP.out.2 hip
          have b1 : ((i : Int) == (p : Int)) = true := beq_iff_eq.2 (by omega)
          have b2 : (i == p) = true := by simpa using hip
          have b3 : ((i : Int) != (p : Int)) = false := by rw [bne_eq_false_iff_eq]; omega
          have b4 : (i != p) = false := by simpa using hip
          have hmb : bI = (bL || bR) ∧ (bL && bR) = false := by
            obtain ⟨e1, e2, e3⟩ := HBB.out
            subst e1 e2 e3
            obtain ⟨m1, m2⟩ := hm
            constructor
            · rw [Bool.eq_iff_iff]; simp only [decide_eq_true_eq, Bool.or_eq_true]; exact m1
            · rw [Bool.and_eq_false_iff]; simp only [decide_eq_false_iff_not]
              by_cases h : X1 ≤ N ∧ N ≤ X2
              · exact .inr (fun h' => m2 ⟨h, h'⟩)
              · exact .inl h
          clear hm hip HPP HBB c0 c1 c2 c3 c4 c5
          obtain ⟨m1, m2⟩ := hmb
          rcases bL with _ | _ <;> rcases bR with _ | _
          · obtain rfl : bI = false := m1
            clear m2
            go_wp2_with fail
            go_quiet (fail)
            go_wp2
            go_roundw
            case rel => exact ⟨i + 1, _, rfl, by omega, by go_num, (by repeat (first | exact HBY.out | (with_reducible refine Bel.drwN ?_ _) | (with_reducible refine Bel.drw ?_) | (with_reducible refine Bel.al ?_ _)))⟩
            case measure => simp [intOf]; omega
          · obtain rfl : bI = true := m1
            clear m2
            go_wp2_with fail
            go_quiet (fail)
            go_wp2
            go_roundw
            case rel => exact ⟨i + 1, _, rfl, by omega, by go_num, (by repeat (first | exact HBY.out | (with_reducible refine Bel.drwN ?_ _) | (with_reducible refine Bel.drw ?_) | (with_reducible refine Bel.al ?_ _)))⟩
            case measure => simp [intOf]; omega
          · obtain rfl : bI = true := m1
            clear m2
            go_wp2_with fail
            go_quiet (fail)
            go_wp2
            go_roundw
            case rel => exact ⟨i + 1, _, rfl, by omega, by go_num, (by repeat (first | exact HBY.out | (with_reducible refine Bel.drwN ?_ _) | (with_reducible refine Bel.drw ?_) | (with_reducible refine Bel.al ?_ _)))⟩
            case measure => simp [intOf]; omega
          · cases m2
        · obtain ⟨g1, g2⟩ := HPP.out.1 hip
          cases g1
          cases g2
          have b1 : ((i : Int) == (p : Int)) = false := by rw [beq_eq_false_iff_ne]; omega
          have b2 : (i == p) = false := by simpa using hip
          have b3 : ((i : Int) != (p : Int)) = true := by rw [bne_iff_ne]; omega
          have b4 : (i != p) = true := by simpa using hip
          have n1' := ne_self P1
          have n2' := ne_self P2
          clear HPP hip HBB
          go_wp2_with fail
          go_quiet (fail)
          go_wp2
          go_roundw
          case rel => exact ⟨i + 1, _, rfl, by omega, by go_num, (by repeat (first | exact HBY.out | (with_reducible refine Bel.drwN ?_ _) | (with_reducible refine Bel.drw ?_) | (with_reducible refine Bel.al ?_ _)))⟩
          case measure => simp [intOf]; omega
      · obtain rfl : i = n := by omega
        go_wp2_with (go_at_call 19; refine (AW.out _).mono ?_; rintro e v9 ⟨rfl, h9⟩; have HB9 : Hid (Bel wr v9) := Bel.tr (by repeat (first | exact Bel.rf | (with_reducible refine Bel.drwN ?_ _) | (with_reducible refine Bel.drw ?_) | (with_reducible refine Bel.al ?_ _))) h9; clear h9)
        go_ret
        exact ⟨rfl, (HB4.out.tr (HB5.out.tr (HB8.out.tr (HB.out.tr HB9.out)))).bl⟩

set_option maxRecDepth 100000 in
theorem lifted (os : Os) (started : os.Started) (H : Type) (enc : TypeId × Value → H) :
    ReturnsInHanded {} Try.checked os 5 .any (Rows.wordRefinesSpec.pre6 enc Try.prog Try.f5 Rows.wordRefinesRow.domain false) (Rows.wordRefinesSpec.post enc Try.prog Try.f5 false true false false) := by
  refine returnsInHanded_of_change (C := Try.checked) own started (by kernel_rfl) Try.func5
    (ChangeSpec.witness6 (enc := enc) (C := Try.checked) false ⟨#[], #[.slice none 0 0, .int .i16 0], []⟩ 8 (by kernel_rfl) (by kernel_rfl) (by kernel_rfl) (by kernel_rfl)) ?_
  intro W base args ds gs before hval0 hW hcnd _
  have hval : ∀ (j : Nat) t v, Try.f5.params[j]? = some t → args[j]? = some v → Value.okWide Try.prog W .any base t v := hval0
  have hW' := hW
  obtain ⟨p, q, hA0, hV, rfl, hfz, hnd⟩ := hW
  have hA : DataW.TrodAll enc Try.prog W 0 (fun _ => true) true Try.f5.params.toList args.toList ds p := hA0
  rw [Try.params5] at hA hval
  obtain ⟨v0, vs0, d0, ds0, p0, q0, hargs, rfl, rfl, h0, r0⟩ := trodAll_cons hA
  obtain ⟨v1, vs1, d1, ds1, p1, q1, rfl, rfl, rfl, h1, r1⟩ := trodAll_cons r0
  obtain ⟨rfl, rfl, rfl⟩ := trodAll_nil r1
  obtain rfl : args = #[v0, v1] := by cases args; simp_all
  obtain ⟨rfl, rfl⟩ := trodVars_none hV
  obtain ⟨a0, len0, cap0, rfl⟩ := okWide_slice Try.underlying22 (hval 0 22 v0 rfl rfl)
  have k0 := h0
  have lt0 : ∀ x ∈ p0, x.block < W.heap.size := by obtain ⟨m, hm⟩ := k0; exact DataW.trod_lt m _ _ _ hm
  obtain ⟨z0, w0⟩ : ∃ zs, IsRow .i64 W a0 len0 cap0 zs := by
    obtain ⟨fuel, hf⟩ := h0
    rcases open_ints Try.underlying22 Try.underlying3 (by kernel_rfl) hf with ⟨hcs, _⟩ | ⟨x, l, c, zs, hcs, _, hl, hm, hz, _, hcell, hwz⟩
    · simp [Value.cells] at hcs
      obtain ⟨rfl, rfl, rfl⟩ := hcs
      exact ⟨[], .inl ⟨rfl, rfl, rfl, rfl⟩⟩
    · simp [Value.cells] at hcs
      obtain ⟨rfl, rfl, rfl⟩ := hcs
      exact ⟨zs, .inr ⟨_, rfl, hl, hm, by simpa using hz, hcell, hwz⟩⟩
  obtain ⟨a1, rfl, rfl, rfl, w1⟩ := open_int Try.underlying53 (hval 1 53 v1 rfl rfl) h1
  clear hA0 hval0
  refine (walk a0 len0 cap0 z0 a1 W w0 w1).mono fun e W' ⟨he, bel⟩ => ?_
  subst he
  exact ⟨_, rfl, _, _, _, [], _, [], hW', trodAll_mk1 (shut_bool Try.underlying4 _), (trodAll_cons_mk (Below.trod laidOut (by kernel_rfl) (of_decide_eq_true (by kernel_rfl)) k0 bel lt0) (trodAll_cons_mk (shut_int Try.underlying53 w1) trodAll_mk0)), rfl, bel.frame _, fun h => by cases h⟩

theorem over : Rows.wordRefinesRow.holds Try.pinned (OpenSpec.ofChange Rows.wordRefinesSpec) :=
  OpenClaim.holds_of_wide 5 Try.f5 rfl rfl rfl rfl rfl rfl rfl ⟨rfl, rfl, rfl, rfl, rfl⟩ rfl rfl rfl rfl rfl (by kernel_rfl) Try.func5 (by kernel_rfl)
    (of_decide_eq_true (by kernel_rfl)) (by unfold Func.isWrapper; first | (rw [if_pos (by decide +kernel)]; kernel_rfl) | (rw [if_neg (by decide +kernel)]; exact ⟨rfl, rfl⟩))
    (fun os started H enc _ => lifted os started H enc)

theorem proved : Rows.WordRefinesSaid := over
end Go.Proofs.Ytgdhgeongdenpaa.wordRefines
