/- That the law ResampleSeries returns true for every input that can be read, and leaves its arguments as they were; no further condition. -/
import Derived.Test.YtdkibffbaamkkaaRows
import Derived.WalkKit
import Derived.ProofKit
import Derived.OpenShut
import Derived.Test.YtdkibffbaamkkaaWords
import Derived.Test.YtdkibffbaamkkaaSrcNew0
import Derived.Test.YtdkibffbaamkkaaRsm
import Derived.ShutString
import Derived.ChangeOld
import Derived.Below
namespace Go.Proofs.Ytdkibffbaamkkaa.resampleSeries
open Go.ChangeShapes Go.WideShapes Go.ChangeAt Go.RowKit Wo
open Go.ChangeMaps (open_string shut_string)
set_option linter.unusedVariables false

theorem own : ownKnob Try.prog.godebug = none := by kernel_rfl
theorem laidOut : laidOutB Try.prog = true := by kernel_rfl

/-- WHAT THE WALK IS TOLD OF A SLICE OF INTEGERS THAT CAME IN: it is nil; or it leads to a row of 'cap' cells, the numbers 'zs' (the first 'len' are its elements, the rest its spare room), each fitting its kind. -/
def IsRow (k : IntKind) (w : World) (a : Option Addr) (len cap : Nat) (zs : List Int) : Prop :=
  (a = none ∧ len = 0 ∧ cap = 0 ∧ zs = []) ∨
  ∃ x, a = some x ∧ len ≤ cap ∧ cap ≤ maxLen ∧ zs.length = cap ∧ (∀ i, i < zs.length → w.cell? (x.add i) = some (.int k (zs.getD i 0))) ∧ ∀ n ∈ zs, (Lit.int k n).wf = true

open Go.Proofs.Ytdkibffbaamkkaa.Rg Go.Proofs.Ytdkibffbaamkkaa.Rm Go.Proofs.Ytdkibffbaamkkaa.Wi Go.Proofs.Ytdkibffbaamkkaa.Wo Go.Proofs.Ytdkibffbaamkkaa.Sr in
set_option maxHeartbeats 8000000 in
set_option maxRecDepth 100000 in
theorem walk (a0 : Option Addr) (len0 cap0 : Nat) (z0 : List Int) (a1 : Int) (a2 : Int) (w : World) (w0 : IsRow .i64 w a0 len0 cap0 z0) (w1 : (Lit.int .u8 a1).wf = true) (w2 : (Lit.int .u8 a2).wf = true) :
    Calls Try.prog 10 #[.slice a0 len0 cap0, .int .u8 a1, .int .u8 a2] w fun e w' => e = .returned (.bool true) ∧ Below w.heap.size w w' := by
  obtain ⟨t0, t1⟩ := bounds_u8 w1
  obtain ⟨p0, p1⟩ := bounds_u8 w2
  clear w1 w2
  have AW : Hid (∀ W, Calls Try.prog 23 #[] W fun e w' => e = .returned (.bool true) ∧ Bel W w') := awake_ok
  go_enter Try.func10, Try.ntmps10
  go_wp2_with fail
  go_at_call 13
  refine (new_any a0 len0 cap0 z0 w w0).mono ?_
  rintro e v1 ⟨g, rfl, hg, ho1, hb1⟩
  have HO1 := Lib.hid ho1
  have HB1 := Lib.hid hb1
  clear ho1 hb1 w0
  go_wp2_with fail
  go_at_call 20
  refine (ascending_any g 10 (by decide) _ HO1.out).mono ?_
  rintro e v2 ⟨v, k, l, rfl, hown, hl, hk, hs, hx0, ho2, hc2⟩
  have HB2 : Hid (Bel w v2) := Bel.ch HB1.out hc2 hg
  have HO2 := Lib.hid ho2
  obtain ⟨A, ca, rfl, hz⟩ := own_zr hown hl
  have hA : ∀ b, A = some ⟨b, 0, none⟩ → b ≠ g := fun b e => by
    have h1 := (hown.lt b (by rw [e]; rfl)).1
    have h2 := HO1.out.lt
    omega
  have HA := Lib.hid hA
  have HZ := Lib.hid hz
  have HS := Lib.hid hs
  have ki : (k : Int) ≤ 10 := by omega
  clear hown ho2 hc2 hz hs hA hx0 hl
  go_wp2_with fail
  go_at_call 24
  refine (kgrid_any g k ca A l (by omega) (asc_vrs HS.out) _ (by first | exact HO2.out | exact HO2.out.drwN _) (by first | exact HZ.out | exact HZ.out.drwN _) HA.out).mono ?_
  rintro e v3 ⟨f, s, r, q, N, rfl, hgv, f1, hf, s1, hN, ho3, hc3⟩
  have HB3 : Hid (Bel w v3) := by first | exact Bel.ch HB2.out hc3 hg | exact Bel.ch (HB2.out.drwN _) hc3 hg
  have hz3 := HZ.out.ch hc3 HA.out
  have HAP : Hid (∀ W, Bel v3 W → _) := fun W hW => apply_ok A ca k l (by omega) HS.out f s r q N hgv W (hz3.bel hW)
  have HPQ : Hid (∀ kk n : Nat, kk + n ≤ N → ∀ W, Bel v3 W → Calls Try.prog 25 #[.slice A k ca, gv (f + (kk : Int) * s) s (n : Int) r q] W _) := fun kk n h W hW => apply_ok A ca k l (by omega) HS.out (f + (kk : Int) * s) s r q n (gv_part hgv f1 s1 hN h) W (hz3.bel hW)
  have HAT : Hid (∀ i : Nat, i < N → ∀ W, Bel v3 W → Calls Try.prog 21 #[.slice A k ca, gv f s (N : Int) r q, .int .i64 (f + (i : Int) * s)] W fun e w' => e = .returned (.tuple #[.int .i64 (val l r q (f + (i : Int) * s)).1, .bool (val l r q (f + (i : Int) * s)).2]) ∧ Bel W w') := fun i hi W hW => by
    have hp := prod_in hgv.2.2.1 s1 hN (show i ≤ N by omega)
    have f0 := hgv.1
    exact at_ok A ca k l (by omega) HS.out f s N r q (f + (i : Int) * s) hgv (by omega) (by omega) W (hz3.bel hW)
  obtain ⟨f0, _, s0, _, _, _, _, r0, r1, q0, q1⟩ := hgv
  have ni : (N : Int) ≤ 19 := by omega
  have HNN : Hid (1 ≤ s ∧ s ≤ 9 ∧ N ≤ 19 ∧ 0 ≤ f ∧ f ≤ 1099511627576) := ⟨s0, s1, hN, f0, f1⟩
  have zf := ne_self f
  have zs' := ne_self s
  have zn := ne_self (N : Int)
  unfold gv at HAP HPQ HAT ⊢
  clear ho3 hc3 hf hz3 HZ HS HA
  go_wp2_with fail
  go_at_call 25
  refine (HAP.out _ (by repeat (first | exact Bel.rf | (with_reducible refine Bel.drwN ?_ _) | (with_reducible refine Bel.drw ?_) | (with_reducible refine Bel.al ?_ _)))).mono ?_
  rintro e w4 ⟨gq, rfl, hgq, hkq, hb4⟩
  have KG : Bk w4 v3.heap.size 46 #[.int .i64 f, .int .i64 s, .int .i64 (N : Int), .int .i64 r, .int .i64 q] := (by first | exact (Bk.nw v3 _ _).bel hb4 | exact (Bk.nw v3 _ _).drwN _ |>.bel hb4)
  have HB4 : Hid (Bel v3 w4) := (Bel.rf.al _).tr hb4
  have HKG := Lib.hid KG
  have HKQ := Lib.hid hkq
  have g0 := KG.cell 0
  have g1 := KG.cell 1
  have g2 := KG.cell 2
  have g3 := KG.cell 3
  have g4 := KG.cell 4
  simp only [List.getElem?_toArray, List.getElem?_cons_zero, List.getElem?_cons_succ] at g0 g1 g2 g3 g4
  have hlt1 := KG.lt
  have hlt2 := hkq.lt
  clear KG hkq hb4
  go_wp2
  go_loopw [60] (fun s60 wr => ∃ (i : Nat) (V : World), V = wr ∧ i ≤ N ∧ s60 = .int .i64 (i : Int) ∧ Bel (w4.alloc (.cells #[.int .i64 f, .int .i64 s, .slice (some ⟨gq, 0, none⟩) N N] 54)) wr) (fun s60 _ => N - (intOf s60).toNat)
  case atStart => exact ⟨0, _, rfl, by omega, rfl, by first | exact Bel.rf | exact Bel.rf.drwN _⟩
  case round =>
    clear g0 g1 g2 g3 g4
    obtain ⟨i, wr, hwr, hi, rfl, hb⟩ := hrel
    subst hwr
    have HB := Lib.hid hb
    have HBW : Hid (Bel w4 wr) := (Bel.rf.al _).tr hb
    have KG := HKG.out.bel HBW.out
    have KS : Bk wr w4.heap.size 54 #[.int .i64 f, .int .i64 s, .slice (some ⟨gq, 0, none⟩) N N] := (Bk.nw w4 _ _).bel hb
    have g0 := KG.cell 0
    have g1 := KG.cell 1
    have g2 := KG.cell 2
    have g3 := KG.cell 3
    have g4 := KG.cell 4
    have s0' := KS.cell 0
    have s1' := KS.cell 1
    have s2' := KS.cell 2
    simp only [List.getElem?_toArray, List.getElem?_cons_zero, List.getElem?_cons_succ] at g0 g1 g2 g3 g4 s0' s1' s2'
    have HKS := Lib.hid KS
    have hq1 := KG.lt
    have hq2 := KS.lt
    clear KG KS hb
    rcases Nat.lt_or_ge i N with hlt | hge
    · have hp := prod_in s0 s1 hN (show i ≤ N by omega)
      have HATi := Lib.hid (HAT.out i hlt)
      have cq := (zi_bk (HKQ.out.bel HBW.out) N (vals_len _ _ _ _ _ _)).at i hlt
      rw [vals_at _ _ _ _ _ _ _ hlt] at cq
      obtain ⟨P, hP⟩ : ∃ P, (i : Int) * s = P := ⟨_, rfl⟩
      rw [hP] at hp HATi cq
      obtain ⟨P0, P1⟩ := hp
      obtain ⟨p, hpp⟩ : ∃ p, val l r q (f + P) = p := ⟨_, rfl⟩
      rw [hpp] at HATi cq
      obtain ⟨x, b⟩ := p
      simp only [] at HATi
      have wP : wrap64 P = P := IntWalk.wrap64_in _ (by omega)
      have wFP : wrap64 (f + P) = f + P := IntWalk.wrap64_in _ (by omega)
      have ii : (i : Int) < (N : Int) := by omega
      have HCQ := Lib.hid cq
      clear hpp cq
      rcases b with _ | _
      · have cq : wr.cell? ⟨gq, i, none⟩ = some (.int .i64 1073741824) := (by have := HCQ.out; simpa [vz] using this)
        have zz := ne_self 1073741824
        have HCQ2 := Lib.hid cq
        clear cq
        go_wp2_with fail
        go_at_call 21
        refine (HATi.out _ (by first | exact HB4.out.tr HBW.out | exact (HB4.out.tr HBW.out).drwN _)).mono ?_
        rintro e w6 ⟨rfl, hb6⟩
        have cq := (by first | exact hb6.kp HCQ2.out | exact hb6.kp (kp_drwN HCQ2.out _) : w6.cell? ⟨gq, i, none⟩ = some (.int .i64 1073741824))
        have HB6 : Hid (Bel wr w6) := by first | exact hb6 | exact (Bel.rf.drwN _).tr hb6
        have KS6 := HKS.out.bel HB6.out
        have n2 := KS6.cell 2
        simp only [List.getElem?_toArray, List.getElem?_cons_zero, List.getElem?_cons_succ] at n2
        clear KS6 hb6 g0 g1 g2 g3 g4 s0' s1' s2'
        go_wp2
        go_roundw
        case rel => exact ⟨i + 1, _, rfl, by omega, by go_num, HB.out.tr (by first | exact HB6.out | exact HB6.out.drwN _)⟩
        case measure => simp [intOf]; omega
      · have cq : wr.cell? ⟨gq, i, none⟩ = some (.int .i64 x) := (by have := HCQ.out; simpa [vz] using this)
        have zz := ne_self x
        have HCQ2 := Lib.hid cq
        clear cq
        go_wp2_with fail
        go_at_call 21
        refine (HATi.out _ (by first | exact HB4.out.tr HBW.out | exact (HB4.out.tr HBW.out).drwN _)).mono ?_
        rintro e w6 ⟨rfl, hb6⟩
        have cq := (by first | exact hb6.kp HCQ2.out | exact hb6.kp (kp_drwN HCQ2.out _) : w6.cell? ⟨gq, i, none⟩ = some (.int .i64 x))
        have HB6 : Hid (Bel wr w6) := by first | exact hb6 | exact (Bel.rf.drwN _).tr hb6
        have KS6 := HKS.out.bel HB6.out
        have n2 := KS6.cell 2
        simp only [List.getElem?_toArray, List.getElem?_cons_zero, List.getElem?_cons_succ] at n2
        clear KS6 hb6 g0 g1 g2 g3 g4 s0' s1' s2'
        go_wp2
        go_roundw
        case rel => exact ⟨i + 1, _, rfl, by omega, by go_num, HB.out.tr (by first | exact HB6.out | exact HB6.out.drwN _)⟩
        case measure => simp [intOf]; omega
    · have ii : (N : Int) ≤ (i : Int) := by omega
      have m0 := Int.emod_nonneg a1 (b := (N : Int) + 1) (by omega)
      have m1 := Int.emod_lt_of_pos a1 (b := (N : Int) + 1) (by omega)
      have HM : Hid (∀ W, Calls Try.prog 18 #[.int .i64 a1, .int .i64 ((N : Int) + 1)] W fun e w' => e = .returned (.int .i64 (a1 % ((N : Int) + 1))) ∧ W = w') := fun W => mod_any a1 _ (by omega) (by omega) (by omega) (by omega) W
      obtain ⟨kk, hkk⟩ := Int.eq_ofNat_of_zero_le m0
      rw [hkk] at m1 HM
      have m2 := Int.emod_nonneg a2 (b := (N : Int) - (kk : Int) + 1) (by omega)
      have m3 := Int.emod_lt_of_pos a2 (b := (N : Int) - (kk : Int) + 1) (by omega)
      have HM2 : Hid (∀ W, Calls Try.prog 18 #[.int .i64 a2, .int .i64 ((N : Int) - (kk : Int) + 1)] W fun e w' => e = .returned (.int .i64 (a2 % ((N : Int) - (kk : Int) + 1))) ∧ W = w') := fun W => mod_any a2 _ (by omega) (by omega) (by omega) (by omega) W
      obtain ⟨n, hn⟩ := Int.eq_ofNat_of_zero_le m2
      rw [hn] at m3 HM2
      have kn : kk + n ≤ N := by omega
      have kni : (kk : Int) + (n : Int) ≤ (N : Int) := by omega
      have hp := prod_in s0 s1 hN (show kk ≤ N by omega)
      have HPK := Lib.hid (HPQ.out kk n kn)
      have hpart := vals_part l f s r q N kk n kn
      have HZQ : Hid (∀ W, Bel w4 W → Zi W (some ⟨gq, kk, none⟩) n (((vals l f s r q N).drop kk).take n)) := fun W hW => zi_sub (zi_bk (HKQ.out.bel hW) N (vals_len _ _ _ _ _ _)) kk n kn
      rw [hpart] at HZQ
      obtain ⟨P, hP⟩ : ∃ P, (kk : Int) * s = P := ⟨_, rfl⟩
      rw [hP] at hp HPK HZQ
      obtain ⟨M, hM⟩ : ∃ M, vals l (f + P) s r q n = M := ⟨_, rfl⟩
      have hML : M.length = n := by rw [← hM, vals_len]
      rw [hM] at HPK HZQ
      have HIN : Hid (∀ (A' : Option Addr) (c' gp : Nat) W, Zi W (some ⟨gp, 0, none⟩) n M → Zi W A' n M → _) := fun A' c' gp W h1 h2 => ints_same (some ⟨gp, 0, none⟩) A' n c' n M (by omega) W h1 h2
      obtain ⟨P0, P1⟩ := hp
      have wP : wrap64 P = P := IntWalk.wrap64_in _ (by omega)
      have wFP : wrap64 (f + P) = f + P := IntWalk.wrap64_in _ (by omega)
      have HPP := Lib.hid (And.intro hP hML)
      clear hpart hM m0 m2 hkk hn
      go_wp2_with fail
      go_at_call 18
      refine (HM.out _).mono ?_
      rintro e v ⟨rfl, rfl⟩
      go_wp2_with fail
      go_at_call 18
      refine (HM2.out _).mono ?_
      rintro e v ⟨rfl, rfl⟩
      go_wp2_with fail
      go_at_call 25
      refine (HPK.out _ ((HB4.out.tr HBW.out).tr (by repeat (first | exact Bel.rf | (with_reducible refine Bel.drwN ?_ _) | (with_reducible refine Bel.drw ?_) | (with_reducible refine Bel.al ?_ _) | refine Bel.st2 (Nat.le_refl _) ?_ _)))).mono ?_
      rintro e w8 ⟨gp, rfl, hgp, hkp, hb8⟩
      have HB8 : Hid (Bel wr w8) := Bel.tr (by repeat (first | exact Bel.rf | (with_reducible refine Bel.drwN ?_ _) | (with_reducible refine Bel.drw ?_) | (with_reducible refine Bel.al ?_ _) | refine Bel.st2 (Nat.le_refl _) ?_ _)) hb8
      have KS8 := HKS.out.bel HB8.out
      have n2 := KS8.cell 2
      have hl8 := KS8.lt
      simp only [List.getElem?_toArray, List.getElem?_cons_zero, List.getElem?_cons_succ] at n2
      have HZ1 : Hid (∀ W, Bel w8 W → Zi W (some ⟨gp, 0, none⟩) n M) := fun W hW => zi_bk (hkp.bel hW) n HPP.out.2
      have HZ2 : Hid (∀ W, Bel w8 W → Zi W (some ⟨gq, kk, none⟩) n M) := fun W hW => HZQ.out W ((HBW.out.tr HB8.out).tr hW)
      clear KS8 hb8 hkp g0 g1 g2 g3 g4 s0' s1' s2' hP HPP
      have d1 : (w8.alloc (.cells #[.int .i64 (f + P), .int .i64 s, .slice (some ⟨gp, 0, none⟩) n n] 54)).cell? ⟨w4.heap.size, 2, none⟩ = some (.slice (some ⟨gq, 0, none⟩) N N) := kp_al n2 _
      have d2 : (w8.alloc (.cells #[.int .i64 (f + P), .int .i64 s, .slice (some ⟨gp, 0, none⟩) n n] 54)).cell? ⟨w8.heap.size, 2, none⟩ = some (.slice (some ⟨gp, 0, none⟩) n n) := (Bk.nw w8 _ _).cell 2
      rcases Nat.lt_or_ge kk N with h9 | h9
      · have h10 : ¬ N = kk := by omega
        have h11 : ¬ kk = N := by omega
        have b0 : (0 : Int) ≤ (kk : Int) := by omega
        have b1 : (kk : Int) ≤ (kk : Int) + (n : Int) := by omega
        have b2 : IntKind.i64.wrap ((kk : Int) + (n : Int)) = (kk : Int) + (n : Int) := IntWalk.i64_in _ (by omega)
        have b3 : (kk : Int) ≤ (N : Int) := by omega
        have b4 : ((kk : Int) + (n : Int)).toNat - kk = n := by omega
        go_wp2_with fail
        go_region_held3 (fun w' => w'.cell? ⟨w4.heap.size, 2, none⟩ = some (.slice (some ⟨gq, 0, none⟩) N N) ∧ w'.cell? ⟨w8.heap.size, 2, none⟩ = some (.slice (some ⟨gp, 0, none⟩) n n))
          ((refine ⟨?_, ?_⟩) <;> (repeat (first | exact d1 | exact d2 | (with_reducible refine kp_drwN ?_ _) | (with_reducible refine kp_drw ?_) | (refine Bel.kp (by assumption) ?_))))
          (first
          | (go_at_call 26; refine (HIN.out _ _ _ _ (HZ1.out _ (by repeat (first | exact Bel.rf | (with_reducible refine Bel.drwN ?_ _) | (with_reducible refine Bel.drw ?_) | (with_reducible refine Bel.al ?_ _)))) (HZ2.out _ (by repeat (first | exact Bel.rf | (with_reducible refine Bel.drwN ?_ _) | (with_reducible refine Bel.drw ?_) | (with_reducible refine Bel.al ?_ _))))).mono ?_; rintro e w9 ⟨rfl, hb9⟩)
          | (go_at_call 23; refine (AW.out _).mono ?_; rintro e w10 ⟨rfl, hb10⟩))
        all_goals
          go_wp2
          go_ret
          exact ⟨rfl, (((HB3.out.tr HB4.out).tr (HBW.out.tr HB8.out)).tr (Bel.tr (by repeat (first | exact Bel.rf | (with_reducible refine Bel.drwN ?_ _) | (with_reducible refine Bel.drw ?_) | (with_reducible refine Bel.al ?_ _) | (with_reducible refine Bel.tr ?_ hb9))) hb10)).bl⟩
      · have hn0 : n = 0 := by omega
        have HZ0 : Hid (∀ W (A' : Option Addr), Zi W A' n M) := fun W A' => ⟨(HZ1.out w8 Bel.rf).1, fun h => by omega⟩
        subst hn0
        obtain rfl : N = kk := by omega
        have b0 : (0 : Int) ≤ (N : Int) := by omega
        have b2 : IntKind.i64.wrap (N : Int) = (N : Int) := IntWalk.i64_in _ (by omega)
        go_wp2_with fail
        go_region_held3 (fun w' => w'.cell? ⟨w4.heap.size, 2, none⟩ = some (.slice (some ⟨gq, 0, none⟩) N N) ∧ w'.cell? ⟨w8.heap.size, 2, none⟩ = some (.slice (some ⟨gp, 0, none⟩) 0 0))
          ((refine ⟨?_, ?_⟩) <;> (repeat (first | exact d1 | exact d2 | (with_reducible refine kp_drwN ?_ _) | (with_reducible refine kp_drw ?_) | (refine Bel.kp (by assumption) ?_))))
          (first
          | (go_at_call 26; refine (HIN.out _ _ _ _ (HZ0.out _ _) (HZ0.out _ _)).mono ?_; rintro e w9 ⟨rfl, hb9⟩)
          | (go_at_call 23; refine (AW.out _).mono ?_; rintro e w10 ⟨rfl, hb10⟩))
        all_goals
          go_wp2
          go_ret
          exact ⟨rfl, (((HB3.out.tr HB4.out).tr (HBW.out.tr HB8.out)).tr (Bel.tr (by repeat (first | exact Bel.rf | (with_reducible refine Bel.drwN ?_ _) | (with_reducible refine Bel.drw ?_) | (with_reducible refine Bel.al ?_ _) | (with_reducible refine Bel.tr ?_ hb9))) hb10)).bl⟩

set_option maxRecDepth 100000 in
theorem lifted (os : Os) (started : os.Started) (H : Type) (enc : TypeId × Value → H) :
    ReturnsInHanded {} Try.checked os 10 .any (Rows.resampleSeriesSpec.pre6 enc Try.prog Try.f10 Rows.resampleSeriesRow.domain false) (Rows.resampleSeriesSpec.post enc Try.prog Try.f10 false true false false) := by
  refine returnsInHanded_of_change (C := Try.checked) own started (by kernel_rfl) Try.func10
    (ChangeSpec.witness6 (enc := enc) (C := Try.checked) false ⟨#[], #[.slice none 0 0, .int .u8 0, .int .u8 0], []⟩ 8 (by kernel_rfl) (by kernel_rfl) (by kernel_rfl) (by kernel_rfl)) ?_
  intro W base args ds gs before hval0 hW hcnd _
  have hval : ∀ (j : Nat) t v, Try.f10.params[j]? = some t → args[j]? = some v → Value.okWide Try.prog W .any base t v := hval0
  have hW' := hW
  obtain ⟨p, q, hA0, hV, rfl, hfz, hnd⟩ := hW
  have hA : DataW.TrodAll enc Try.prog W 0 (fun _ => true) true Try.f10.params.toList args.toList ds p := hA0
  rw [Try.params10] at hA hval
  obtain ⟨v0, vs0, d0, ds0, p0, q0, hargs, rfl, rfl, h0, r0⟩ := trodAll_cons hA
  obtain ⟨v1, vs1, d1, ds1, p1, q1, rfl, rfl, rfl, h1, r1⟩ := trodAll_cons r0
  obtain ⟨v2, vs2, d2, ds2, p2, q2, rfl, rfl, rfl, h2, r2⟩ := trodAll_cons r1
  obtain ⟨rfl, rfl, rfl⟩ := trodAll_nil r2
  obtain rfl : args = #[v0, v1, v2] := by cases args; simp_all
  obtain ⟨rfl, rfl⟩ := trodVars_none hV
  obtain ⟨a0, len0, cap0, rfl⟩ := okWide_slice Try.underlying22 (hval 0 22 v0 rfl rfl)
  have k0 := h0
  have lt0 : ∀ x ∈ p0, x.block < W.heap.size := by obtain ⟨m, hm⟩ := k0; exact DataW.trod_lt m _ _ _ hm
  obtain ⟨z0, w0⟩ : ∃ zs, IsRow .i64 W a0 len0 cap0 zs := by
    obtain ⟨fuel, hf⟩ := h0
    rcases open_ints Try.underlying22 Try.underlying3 (by kernel_rfl) hf with ⟨hcs, _⟩ | ⟨x, l, c, zs, hcs, _, hl, hm, hz, _, hcell, hwz⟩
    · simp [Value.cells] at hcs
      obtain ⟨rfl, rfl, rfl⟩ := hcs
      exact ⟨[], .inl ⟨rfl, rfl, rfl, rfl⟩⟩
    · simp [Value.cells] at hcs
      obtain ⟨rfl, rfl, rfl⟩ := hcs
      exact ⟨zs, .inr ⟨_, rfl, hl, hm, by simpa using hz, hcell, hwz⟩⟩
  obtain ⟨a1, rfl, rfl, rfl, w1⟩ := open_int Try.underlying5 (hval 1 5 v1 rfl rfl) h1
  obtain ⟨a2, rfl, rfl, rfl, w2⟩ := open_int Try.underlying5 (hval 2 5 v2 rfl rfl) h2
  clear hA0 hval0
  refine (walk a0 len0 cap0 z0 a1 a2 W w0 w1 w2).mono fun e W' ⟨he, bel⟩ => ?_
  subst he
  exact ⟨_, rfl, _, _, _, [], _, [], hW', trodAll_mk1 (shut_bool Try.underlying4 _), (trodAll_cons_mk (Below.trod laidOut (by kernel_rfl) (of_decide_eq_true (by kernel_rfl)) k0 bel lt0) (trodAll_cons_mk (shut_int Try.underlying5 w1) (trodAll_cons_mk (shut_int Try.underlying5 w2) trodAll_mk0))), rfl, bel.frame _, fun h => by cases h⟩

theorem over : Rows.resampleSeriesRow.holds Try.pinned (OpenSpec.ofChange Rows.resampleSeriesSpec) :=
  OpenClaim.holds_of_wide 10 Try.f10 rfl rfl rfl rfl rfl rfl rfl ⟨rfl, rfl, rfl, rfl, rfl⟩ rfl rfl rfl rfl rfl (by kernel_rfl) Try.func10 (by kernel_rfl)
    (of_decide_eq_true (by kernel_rfl)) (by unfold Func.isWrapper; first | (rw [if_pos (by decide +kernel)]; kernel_rfl) | (rw [if_neg (by decide +kernel)]; exact ⟨rfl, rfl⟩))
    (fun os started H enc _ => lifted os started H enc)

theorem proved : Rows.ResampleSeriesSaid := over
end Go.Proofs.Ytdkibffbaamkkaa.resampleSeries
