/- That the law TopLossless returns true for every input that can be read, and leaves its arguments as they were; the package variables that it lists start as the program lays them, which the card ties to the text; no further condition. -/
import Derived.Test.YtnjojdmmalmhaaaGreatDoorRows
import Derived.WalkKit
import Derived.ProofKit
import Derived.OpenShut
import Derived.LaidMore
import Derived.Stop.Joined
import Derived.SevenTiedAt
import Derived.Test.YtnjojdmmalmhaaaGreatDoorCards
import Derived.Test.YtnjojdmmalmhaaaGreatDoorTie
import Derived.Test.YtnjojdmmalmhaaaGreatDoorGl1
import Derived.Test.YtnjojdmmalmhaaaGreatDoorGl2
import Derived.Test.YtnjojdmmalmhaaaGreatDoorGl3
import Derived.Test.YtnjojdmmalmhaaaGreatDoorGl4
import Derived.Test.YtnjojdmmalmhaaaGreatDoorGl5
import Derived.Test.YtnjojdmmalmhaaaGreatDoorGl6
import Derived.Test.YtnjojdmmalmhaaaGreatDoorGl7
import Derived.ShutString
import Derived.ChangeOld
import Derived.Below
namespace Go.Proofs.YtnjojdmmalmhaaaGreatDoor.topLossless
open Go.ChangeShapes Go.WideShapes Go.ChangeAt Go.RowKit Wo
open Go.ChangeMaps (open_string shut_string)
set_option linter.unusedVariables false

theorem own : ownKnob Tryz.prog.godebug = none := by kernel_rfl
theorem laidOut : laidOutB Tryz.prog = true := by kernel_rfl

/-- WHAT THE WALK IS TOLD OF A SLICE OF INTEGERS THAT CAME IN: it is nil; or it leads to a row of 'cap' cells, the numbers 'zs' (the first 'len' are its elements, the rest its spare room), each fitting its kind. -/
def IsRow (k : IntKind) (w : World) (a : Option Addr) (len cap : Nat) (zs : List Int) : Prop :=
  (a = none ∧ len = 0 ∧ cap = 0 ∧ zs = []) ∨
  ∃ x, a = some x ∧ len ≤ cap ∧ cap ≤ maxLen ∧ zs.length = cap ∧ (∀ i, i < zs.length → w.cell? (x.add i) = some (.int k (zs.getD i 0))) ∧ ∀ n ∈ zs, (Lit.int k n).wf = true

open Go.Proofs.YtnjojdmmalmhaaaGreatDoor.Tp Go.Proofs.YtnjojdmmalmhaaaGreatDoor.Se Go.Proofs.YtnjojdmmalmhaaaGreatDoor.Pk Go.Proofs.YtnjojdmmalmhaaaGreatDoor.Sg Go.Proofs.YtnjojdmmalmhaaaGreatDoor.Wi Go.Proofs.YtnjojdmmalmhaaaGreatDoor.Wo Go.Proofs.YtnjojdmmalmhaaaGreatDoor.Sr in
set_option maxHeartbeats 8000000 in
set_option maxRecDepth 100000 in
theorem walk (a0 : Option Addr) (len0 cap0 : Nat) (z0 : List Int) (a1 : Int) (w : World) (hL : Tp.Lt w) (w0 : IsRow .i64 w a0 len0 cap0 z0) (w1 : (Lit.int .u8 a1).wf = true) :
    Calls Tryz.prog 3 #[.slice a0 len0 cap0, .int .u8 a1] w fun e w' => e = .returned (.bool true) ∧ Below w.heap.size w w' := by
  obtain ⟨hu0, hu1⟩ := bounds_u8 w1
  clear w1
  have AW : Hid (∀ W, Bel w W → Calls Tryz.prog 13 #[] W fun e w' => e = .returned (.bool true) ∧ Bel W w') := fun W hW => running_any W (Un.Pows.bel hL hW)
  clear hL
  obtain ⟨m, hm, m0, m1⟩ : ∃ m : Nat, Int.tmod a1 9 + 2 = (m : Int) ∧ 2 ≤ m ∧ m ≤ 10 := by
    have h1 := Int.tmod_nonneg (a := a1) 9 hu0
    have h2 := Int.tmod_lt_of_pos a1 (b := 9) (by decide)
    exact ⟨(Int.tmod a1 9 + 2).toNat, by omega, by omega, by omega⟩
  have hm' : 2 + Int.tmod a1 9 = (m : Int) := by omega
  have hm3 : 2 + a1 % 9 = (m : Int) := by rw [← Int.tmod_eq_emod_of_nonneg hu0]; exact hm'
  have HMM := Lib.hid (And.intro hm (And.intro hm' hm3))
  clear hm hm' hm3
  go_enter Tryz.func3, Tryz.ntmps3
  go_wp2_with fail
  go_at_call 5
  refine (new_any a0 len0 cap0 z0 w w0).mono ?_
  rintro e v1 ⟨g, rfl, hg, ho1, hb1⟩
  have HO1 := Lib.hid ho1
  have HB1 := Lib.hid hb1
  clear ho1 hb1 w0
  go_wp2_with fail
  go_at_call 6
  refine (series_any g 150 (by decide) _ HO1.out).mono ?_
  rintro e v2 ⟨st, sp, A, n, c, L, rfl, st0, st1, sp0, sp1, n200, hsv, hvs, _, _, hc⟩
  have HB2 : Hid (Bel w v2) := Bel.ch HB1.out hc hg
  have HSB : Hid (Sb st sp n) := ⟨st0, by omega, sp0, sp1, by omega⟩
  have HSV := Lib.hid hsv
  have HL := Lib.hid hvs.1.1
  have HS := Lib.hid (Bk.nw v2 24 #[.int .i64 st, .int .i64 sp, .slice A n c])
  have HB0 : Hid (Bel w (v2.alloc (.cells #[.int .i64 st, .int .i64 sp, .slice A n c] 24))) := HB2.out.al _
  have HV0 : Hid (Vs (v2.alloc (.cells #[.int .i64 st, .int .i64 sp, .slice A n c] 24)) A n c L) := hvs.bel (Bel.rf.al _)
  obtain ⟨V0, hV0⟩ : ∃ V0, v2.alloc (.cells #[.int .i64 st, .int .i64 sp, .slice A n c] 24) = V0 := ⟨_, rfl⟩
  rw [hV0] at HS HB0 HV0
  have ni : (n : Int) ≤ 200 := by omega
  clear hsv hvs hc
  have s0 : V0.cell? ⟨v2.heap.size, 0, none⟩ = some (.int .i64 st) := HS.out.cell 0
  have s1 : V0.cell? ⟨v2.heap.size, 1, none⟩ = some (.int .i64 sp) := HS.out.cell 1
  have s2 : V0.cell? ⟨v2.heap.size, 2, none⟩ = some (.slice A n c) := HS.out.cell 2
  have sl := HS.out.lt
  have HST : Hid (∀ W, Bel V0 W → _) := fun W hW => Se.store_ok st sp A n c L HSB.out HSV.out W (HV0.out.bel hW)
  go_wp2_with fail
  (try rw [hV0])
  go_wp2_with fail
  clear hV0
  go_at_call 7
  refine (HST.out _ Bel.rf).mono ?_
  rintro e v3 ⟨u, N, us, rfl, hN, hus, hown, hsr, hb3⟩
  obtain ⟨A3, c3, rfl, hz3⟩ := own_zsg hown hus
  have HB3 : Hid (Bel V0 v3) := hb3
  have t0 : v3.cell? ⟨v2.heap.size, 0, none⟩ = some (.int .i64 st) := hb3.kp s0
  have t1 : v3.cell? ⟨v2.heap.size, 1, none⟩ = some (.int .i64 sp) := hb3.kp s1
  have t2 : v3.cell? ⟨v2.heap.size, 2, none⟩ = some (.slice A n c) := hb3.kp s2
  have tl : v2.heap.size < v3.heap.size := by have := hb3.size; omega
  have HZ3 := Lib.hid hz3
  have HSR := Lib.hid hsr
  have HN := Lib.hid hN
  have HLO : Hid (∀ W, Bel v3 W → _) := fun W hW => Se.load_ok st sp n L HSB.out HSV.out HL.out (by omega) A3 c3 N us HN.out W (HZ3.out.bel hW) (HSR.out.bel hW)
  clear hN hb3 s0 s1 s2 sl hown hz3 hsr hus
  go_wp2_with fail
  go_at_call 8
  refine (HLO.out _ (by repeat (first | exact Bel.rf | (with_reducible refine Bel.drwN ?_ _) | (with_reducible refine Bel.drw ?_) | (with_reducible refine Bel.al ?_ _)))).mono ?_
  rintro e v4 ⟨a, rfl, hz4, hb4⟩
  have HB4 : Hid (Bel v3 v4) := by first | exact hb4 | exact (Bel.rf.drwN _).tr hb4
  have HZ4 := Lib.hid hz4
  have HT := Lib.hid (Bk.nw v4 24 #[.int .i64 st, .int .i64 sp, .slice (some ⟨a, 0, none⟩) n n])
  have HB5 : Hid (Bel v3 (v4.alloc (.cells #[.int .i64 st, .int .i64 sp, .slice (some ⟨a, 0, none⟩) n n] 24))) := HB4.out.al _
  have HZ5 : Hid (Zi (v4.alloc (.cells #[.int .i64 st, .int .i64 sp, .slice (some ⟨a, 0, none⟩) n n] 24)) (some ⟨a, 0, none⟩) n L) := hz4.bel (Bel.rf.al _)
  obtain ⟨V5, hV5⟩ : ∃ V, v4.alloc (.cells #[.int .i64 st, .int .i64 sp, .slice (some ⟨a, 0, none⟩) n n] 24) = V := ⟨_, rfl⟩
  rw [hV5] at HT HB5 HZ5
  have HSM : Hid (∀ W, Bel V5 W → _) := fun W hW => equal_yes st sp A (some ⟨a, 0, none⟩) c n n L (by omega) W (HV0.out.bel (HB3.out.tr (HB5.out.tr hW))).1 (HZ5.out.bel hW)
  clear t0 t1 t2 tl hz4 hb4
  have t0 : V5.cell? ⟨v2.heap.size, 0, none⟩ = some (.int .i64 st) := (HS.out.bel (HB3.out.tr HB5.out)).cell 0
  have t1 : V5.cell? ⟨v2.heap.size, 1, none⟩ = some (.int .i64 sp) := (HS.out.bel (HB3.out.tr HB5.out)).cell 1
  have t2 : V5.cell? ⟨v2.heap.size, 2, none⟩ = some (.slice A n c) := (HS.out.bel (HB3.out.tr HB5.out)).cell 2
  have tl := (HS.out.bel (HB3.out.tr HB5.out)).lt
  have y0 : V5.cell? ⟨v4.heap.size, 0, none⟩ = some (.int .i64 st) := HT.out.cell 0
  have y1 : V5.cell? ⟨v4.heap.size, 1, none⟩ = some (.int .i64 sp) := HT.out.cell 1
  have y2 : V5.cell? ⟨v4.heap.size, 2, none⟩ = some (.slice (some ⟨a, 0, none⟩) n n) := HT.out.cell 2
  have yl := HT.out.lt
  go_wp2_with fail
  (try rw [hV5])
  go_wp2_with fail
  clear hV5
  go_at_call 9
  refine (HSM.out _ (by repeat (first | exact Bel.rf | (with_reducible refine Bel.drwN ?_ _) | (with_reducible refine Bel.drw ?_) | (with_reducible refine Bel.al ?_ _)))).mono ?_
  rintro e v6 ⟨rfl, hb6⟩
  have HB6 : Hid (Bel v3 v6) := HB5.out.tr (by first | exact hb6 | exact (Bel.rf.drwN _).tr hb6)
  have HBW6 : Hid (Bel w v6) := HB0.out.tr (HB3.out.tr HB6.out)
  have HS6 := Lib.hid (HS.out.bel (HB3.out.tr HB6.out))
  have HT6 : Hid (Bk v6 v4.heap.size 24 #[.int .i64 st, .int .i64 sp, .slice (some ⟨a, 0, none⟩) n n]) := HT.out.bel (by first | exact hb6 | exact (Bel.rf.drwN _).tr hb6)
  have HX6 : Hid (Vs v6 A n c L) := HV0.out.bel (HB3.out.tr HB6.out)
  have HY6 : Hid (Zi v6 (some ⟨a, 0, none⟩) n L) := HZ5.out.bel (by first | exact hb6 | exact (Bel.rf.drwN _).tr hb6)
  have HG6 := Lib.hid (HZ3.out.bel HB6.out)
  have HSR6 : Hid (∀ j, j < (cks L).length → Sok v6 L ((cks L).getD j (0, 0)) (us.getD j (0, undef))) := fun j hj => (HSR.out.2 j hj).bel HB6.out
  clear t0 t1 t2 tl y0 y1 y2 yl hb6
  have t0 : v6.cell? ⟨v2.heap.size, 0, none⟩ = some (.int .i64 st) := HS6.out.cell 0
  have t1 : v6.cell? ⟨v2.heap.size, 1, none⟩ = some (.int .i64 sp) := HS6.out.cell 1
  have t2 : v6.cell? ⟨v2.heap.size, 2, none⟩ = some (.slice A n c) := HS6.out.cell 2
  have tl := HS6.out.lt
  have y0 : v6.cell? ⟨v4.heap.size, 0, none⟩ = some (.int .i64 st) := HT6.out.cell 0
  have y1 : v6.cell? ⟨v4.heap.size, 1, none⟩ = some (.int .i64 sp) := HT6.out.cell 1
  have y2 : v6.cell? ⟨v4.heap.size, 2, none⟩ = some (.slice (some ⟨a, 0, none⟩) n n) := HT6.out.cell 2
  have yl := HT6.out.lt
  have m9 := HMM.out.2.1
  have m8 := HMM.out.2.2
  have w9 : IntKind.i64.wrap (2 + Int.tmod a1 9) = (m : Int) := by rw [m9]; exact IntWalk.i64_in _ (by omega)
  have ST1 : Hid (∀ W, Bel v6 W → Calls Tryz.prog 10 #[.agg #[.int .i64 st, .int .i64 sp, .slice A n c], .int .i64 (m : Int)] W (SomeStarts L m W)) := fun W hW => starts_c st sp A n c m L HSB.out HSV.out (by omega) (by omega) W (HX6.out.bel hW).1
  have ST2 : Hid (∀ W, Bel v6 W → Calls Tryz.prog 10 #[.agg #[.int .i64 st, .int .i64 sp, .slice (some ⟨a, 0, none⟩) n n], .int .i64 (m : Int)] W (SomeStarts L m W)) := fun W hW => starts_c st sp (some ⟨a, 0, none⟩) n n m L HSB.out HSV.out (by omega) (by omega) W (HY6.out.bel hW)
  have KS : Hid (∀ W', Bel v6 W' → ((fun w' => w'.cell? ⟨v2.heap.size, 0, none⟩ = some (.int .i64 st) ∧ w'.cell? ⟨v2.heap.size, 1, none⟩ = some (.int .i64 sp) ∧ w'.cell? ⟨v2.heap.size, 2, none⟩ = some (.slice A n c) ∧ w'.cell? ⟨v4.heap.size, 0, none⟩ = some (.int .i64 st) ∧ w'.cell? ⟨v4.heap.size, 1, none⟩ = some (.int .i64 sp) ∧ w'.cell? ⟨v4.heap.size, 2, none⟩ = some (.slice (some ⟨a, 0, none⟩) n n)) W')) := fun W' h => ⟨h.kp t0, h.kp t1, h.kp t2, h.kp y0, h.kp y1, h.kp y2⟩
  go_wp2_with fail
  clear m9 m8 w9
  go_region_held3 (fun w' => w'.cell? ⟨v2.heap.size, 0, none⟩ = some (.int .i64 st) ∧ w'.cell? ⟨v2.heap.size, 1, none⟩ = some (.int .i64 sp) ∧ w'.cell? ⟨v2.heap.size, 2, none⟩ = some (.slice A n c) ∧ w'.cell? ⟨v4.heap.size, 0, none⟩ = some (.int .i64 st) ∧ w'.cell? ⟨v4.heap.size, 1, none⟩ = some (.int .i64 sp) ∧ w'.cell? ⟨v4.heap.size, 2, none⟩ = some (.slice (some ⟨a, 0, none⟩) n n))
    (exact KS.out _ (by repeat (first | exact Bel.rf | (with_reducible refine Bel.drwN ?_ _) | (with_reducible refine Bel.drw ?_) | (with_reducible refine Bel.tr ?_ hb10) | (with_reducible refine Bel.tr ?_ hb9))))
    ((go_at_call 10; first
      | ((with_reducible refine (ST1.out _ (by repeat (first | exact Bel.rf | (with_reducible refine Bel.drwN ?_ _) | (with_reducible refine Bel.drw ?_) | (with_reducible refine Bel.tr ?_ hb10) | (with_reducible refine Bel.tr ?_ hb9)))).mono ?_); rintro r s1 ⟨A7, k7, c7, rfl, hk7, hz7, hb9⟩)
      | ((with_reducible refine (ST2.out _ (by repeat (first | exact Bel.rf | (with_reducible refine Bel.drwN ?_ _) | (with_reducible refine Bel.drw ?_) | (with_reducible refine Bel.tr ?_ hb10) | (with_reducible refine Bel.tr ?_ hb9)))).mono ?_); rintro r s2 ⟨A8, k8, c8, rfl, hk8, hz8, hb10⟩)))
  all_goals
    have HB8 : Hid (Bel v6 s2) := (by repeat (first | exact Bel.rf | (with_reducible refine Bel.drwN ?_ _) | (with_reducible refine Bel.drw ?_) | (with_reducible refine Bel.tr ?_ hb10) | (with_reducible refine Bel.tr ?_ hb9)) : Bel v6 s2)
    have HZ7 : Hid (Zi s2 A7 k7 (stz L m)) := hz7.bel (by repeat (first | exact Bel.rf | (with_reducible refine Bel.drwN ?_ _) | (with_reducible refine Bel.drw ?_) | (with_reducible refine Bel.tr ?_ hb10) | (with_reducible refine Bel.tr ?_ hb9)))
    have HZ8 := Lib.hid hz8
    subst hk7
    subst hk8
    have HBW8 : Hid (Bel w s2) := HBW6.out.tr HB8.out
    have hk9 : (sts L m).length ≤ 1000000 := by have := sts_small L m (by omega); have := HL.out; omega
    clear hz7 hz8 hb9 hb10 t0 t1 t2 tl y0 y1 y2 yl
    go_wp2_with fail
    go_at_call 11
    refine (ints_same A7 A8 c7 c8 _ (stz L m) hk9 _ HZ7.out HZ8.out).mono ?_
    rintro e v9 ⟨rfl, hb9⟩
    have HB9 : Hid (Bel v6 v9) := HB8.out.tr hb9
    clear hb9
    have d0 : v9.cell? ⟨v2.heap.size, 0, none⟩ = some (.int .i64 st) := (HS6.out.bel HB9.out).cell 0
    have d2 : v9.cell? ⟨v2.heap.size, 2, none⟩ = some (.slice A n c) := (HS6.out.bel HB9.out).cell 2
    have fs : ∀ j, j < n → ∃ ad, A = some ad := fun j hj => by
      obtain ⟨ad, e, _⟩ := HX6.out.1.2 (by omega)
      exact ⟨ad, e⟩
    have HFS := Lib.hid fs
    have HPA : Hid (∀ j, j < N → 1 ≤ ct (cks L) j ∧ ct (cks L) j ≤ 64 ∧ Vx ((L.drop (fr (cks L) j)).take (ct (cks L) j)) ∧ ((L.drop (fr (cks L) j)).take (ct (cks L) j)).length = ct (cks L) j) := fun j hj => by
      have hjc : j < (cks L).length := by rw [← HN.out]; exact hj
      obtain ⟨g1, g2, g3, g4, g5⟩ := piece_at hjc
      have g6 := cks_le hjc
      have h9 := piece_vx (t := 0) (f := fr (cks L) j) (c := ct (cks L) j) HSV.out rfl g4 (fun i hi => by have := g5 i hi; rwa [getD_two (by omega)] at this) (by omega)
      rw [show fr (cks L) j + 64 * 0 = fr (cks L) j by omega, show min 64 (ct (cks L) j - 64 * 0) = ct (cks L) j by omega] at h9
      exact ⟨g3, g6, h9, by simp; omega⟩
    have HNB : Hid (N ≤ 200) := by
      have h1 : ∀ t, t ≤ N → t ≤ sm (cks L) t := fun t => by
        induction t with
        | zero => intro _; exact Nat.zero_le _
        | succ t ih =>
          intro h
          have h2 := ih (by omega)
          have h3 := (HPA.out t (by omega)).1
          show t + 1 ≤ sm (cks L) t + ct (cks L) t
          omega
      have h2 := h1 N (Nat.le_refl _)
      have h3 := sm_all (cks L)
      rw [← HN.out, cks_sum] at h3
      have := cnt_le L
      have := HL.out
      show N ≤ 200
      omega
    have HPB : Hid (∀ j, j ≤ N → -(64000 * (j : Int)) ≤ psum L ((cks L).take j) ∧ psum L ((cks L).take j) ≤ 64000 * (j : Int)) := fun j hj => ps_bd (cks L) (fun t ht => by
      obtain ⟨k1, k2, hv, hxl⟩ := HPA.out t (by rw [HN.out]; exact ht)
      have hv2 : ∀ x ∈ (L.drop (fr (cks L) t)).take (ct (cks L) t), -1000 ≤ x ∧ x ≤ 1000 := hv.2.2
      have h3 := sum_bd _ hv2
      rw [hxl] at h3
      show -64000 ≤ ((L.drop (fr (cks L) t)).take (ct (cks L) t)).sum ∧ ((L.drop (fr (cks L) t)).take (ct (cks L) t)).sum ≤ 64000
      omega) j (by rw [← HN.out]; exact hj)
    have HNM : Hid (∀ j, j ≤ n → -(1000 * (j : Int)) ≤ nm (L.take j) ∧ nm (L.take j) ≤ 1000 * (j : Int)) := fun j hj => nm_bd HSV.out j (by rw [HL.out]; exact hj)
    have Ni : (N : Int) ≤ 200 := by have := HNB.out; omega
    clear fs
    go_wp2
    go_loopw [13, 67] (fun s13 s67 wr => ∃ (j : Nat) (V : World), V = wr ∧ j ≤ n ∧ s67 = .int .i64 (j : Int) ∧ s13 = .int .i64 (nm (L.take j)) ∧ Bel v6 V) (fun _ s67 _ => n - (intOf s67).toNat)
    case atStart => exact ⟨0, _, rfl, Nat.zero_le _, rfl, rfl, (by first | exact HB9.out | exact HB9.out.drwN _)⟩
    case round =>
      obtain ⟨j, wr, hwr, hj, rfl, rfl, hb⟩ := hrel
      subst hwr
      have HB := Lib.hid hb
      have e0 : wr.cell? ⟨v2.heap.size, 2, none⟩ = some (.slice A n c) := (HS6.out.bel hb).cell 2
      have el := (HS6.out.bel hb).lt
      rcases Nat.lt_or_ge j n with hlt | hge
      · obtain ⟨ad, rfl, hab, hac⟩ := (HX6.out.1.bel hb).2 (by omega)
        have cx := hac j hlt
        obtain ⟨x, hx⟩ : ∃ x, L.getD j 0 = x := ⟨_, rfl⟩
        rw [hx] at cx
        have hnx := nm_take L j (by rw [HL.out]; exact hlt)
        rw [hx] at hnx
        have b1 := HNM.out j hj
        have b2 := HNM.out (j + 1) hlt
        obtain ⟨S, hS⟩ : ∃ S, nm (L.take j) = S := ⟨_, rfl⟩
        rw [hS] at hnx b1 ⊢
        have ji : (j : Int) < (n : Int) := by omega
        rcases Classical.em (x = 1073741824) with hxm | hxm
        · rw [if_pos hxm] at hnx
          have q1 : (x != 1073741824) = false := by simpa using hxm
          have HNX := Lib.hid hnx
          clear hb hab hac hnx b1 b2 hx hS
          subst hxm
          go_wp2
          go_roundw
          case rel => exact ⟨j + 1, _, rfl, hlt, by go_num, by rw [HNX.out]; go_num, HB.out⟩
          case measure => simp [intOf]; omega
        · rw [if_neg hxm] at hnx
          rw [hnx] at b2
          have q1 : (x != 1073741824) = true := by simpa using hxm
          have HNX := Lib.hid hnx
          have sx : IntKind.i64.wrap (S + x) = S + x := IntWalk.i64_in _ (by omega)
          have sy : wrap64 (S + x) = S + x := IntWalk.wrap64_in _ (by omega)
          clear hb hab hac hnx b1 b2 hx hS
          go_wp2
          go_roundw
          case rel => exact ⟨j + 1, _, rfl, hlt, by go_num, by rw [HNX.out], HB.out⟩
          case measure => simp [intOf]; omega
      · obtain rfl : j = n := by omega
        have hnl : nm (L.take j) = nm L := by rw [List.take_of_length_le (by rw [HL.out]; exact Nat.le_refl _)]
        have b1 := HNM.out j (Nat.le_refl _)
        rw [hnl] at b1 ⊢
        obtain ⟨S, hS⟩ : ∃ S, nm L = S := ⟨_, rfl⟩
        rw [hS] at b1 ⊢
        have HSS : Hid (psum L (cks L) = S) := by rw [← hS]; exact psum_all L
        have HBS := Lib.hid b1
        have HB9b : Hid (Bel v6 wr) := hb
        clear hnl b1 hS hb
        go_wp2
        go_loopw [13, 86] (fun s13 s86 wr => ∃ (j : Nat) (V : World), V = wr ∧ j ≤ N ∧ s86 = .int .i64 (j : Int) ∧ s13 = .int .i64 (S - psum L ((cks L).take j)) ∧ Bel v6 V) (fun _ s86 _ => N - (intOf s86).toNat)
        case atStart => exact ⟨0, _, rfl, Nat.zero_le _, rfl, by simp [psum], HB9b.out⟩
        case round =>
          obtain ⟨t, ws, hws, ht, rfl, rfl, hbs⟩ := hrel
          subst hws
          have HBT := Lib.hid hbs
          rcases Nat.lt_or_ge t N with hlt | hge
          · obtain ⟨P, rfl, hpl, hpc⟩ := (HG6.out.bel hbs).2 (by omega)
            have p2 := (hpc t hlt).2
            have hjc : t < (cks L).length := by rw [← HN.out]; exact hlt
            obtain ⟨_, N1, q2, q3⟩ := (HSR6.out t hjc).bel hbs
            obtain ⟨k1, k2, hv, hxl⟩ := HPA.out t hlt
            have hps := psum_take L (cks L) t hjc
            have b1 := HPB.out t (by omega)
            have b2 := HPB.out (t + 1) hlt
            have q2' : (seg ((L.drop (fr (cks L) t)).take (ct (cks L) t))).length = N1 := q2
            have q3' : ws.ownsRow 0 5 1 (us.getD t (0, undef)).2 N1 (By.bys (seg ((L.drop (fr (cks L) t)).take (ct (cks L) t)))) := q3
            have hps' : psum L ((cks L).take (t + 1)) = psum L ((cks L).take t) + ((L.drop (fr (cks L) t)).take (ct (cks L) t)).sum := hps
            obtain ⟨x, hx⟩ : ∃ x, (L.drop (fr (cks L) t)).take (ct (cks L) t) = x := ⟨_, rfl⟩
            rw [hx] at hv hxl q2' q3' hps'
            obtain ⟨U, hU⟩ : ∃ U, (us.getD t (0, undef)).2 = U := ⟨_, rfl⟩
            rw [hU] at p2 q3'
            have hN1 := (seg_len hv).1
            have hN2 := (seg_len hv).2.1
            rw [q2'] at hN1 hN2
            obtain ⟨h1, c1, rfl, hc1, hcm, _, hrd⟩ := own_rd q3' (seg_byte hv) q2' (by omega)
            obtain ⟨Y, hY⟩ : ∃ Y, psum L ((cks L).take t) = Y := ⟨_, rfl⟩
            obtain ⟨X, hX⟩ : ∃ X, x.sum = X := ⟨_, rfl⟩
            rw [hY, hX] at hps'
            rw [hps'] at b2
            rw [hY] at b1 ⊢
            have HSU : Hid (∀ W, Bel ws W → Calls Tryz.prog 12 #[.slice (some ⟨h1, 0, none⟩) N1 c1] W fun e w' => (∃ K k m M : Int, e = .returned (.tuple #[.agg #[.int .i64 K, .int .i64 k, .int .i64 m, .int .i64 M, .int .i64 X], .int .i64 0])) ∧ Bel W w') := fun W hW => by
              refine (sum_ok (some ⟨h1, 0, none⟩) c1 N1 x hv (by omega) hc1 hcm W (hrd.bel hW)).mono ?_
              rintro e w' ⟨rfl, hb⟩
              exact ⟨⟨(kd x : Int), (x.length : Int), mn x, mx x, by rw [← hX]; rfl⟩, hb⟩
            have HPS := Lib.hid hps'
            have ti : (t : Int) < (N : Int) := Int.ofNat_lt.2 hlt
            have bs := HBS.out
            have sx : IntKind.i64.wrap (S - Y - X) = S - Y - X := IntWalk.i64_in _ (by have := HNB.out; omega)
            have sy : wrap64 (S - Y - X) = S - Y - X := IntWalk.wrap64_in _ (by have := HNB.out; omega)
            clear hbs hpl hpc hjc q2 q3 q2' q3' k1 k2 hv hxl hx hU hN1 hN2 hc1 hcm hrd hY hX hps hps' b1 b2 bs
            go_wp2_with fail
            go_at_call 12
            refine (HSU.out _ (by repeat (first | exact Bel.rf | (with_reducible refine Bel.drwN ?_ _) | (with_reducible refine Bel.drw ?_) | (with_reducible refine Bel.al ?_ _)))).mono ?_
            rintro e v10 ⟨⟨K, k', m', M', rfl⟩, hb10⟩
            have HB10 : Hid (Bel ws v10) := by first | exact hb10 | exact (Bel.rf.drwN _).tr hb10
            clear hb10
            go_wp2
            go_roundw
            case rel => exact ⟨t + 1, _, rfl, hlt, by go_num, by rw [HPS.out]; congr 1; omega, HBT.out.tr (HB10.out.tr (by repeat (first | exact Bel.rf | (with_reducible refine Bel.drwN ?_ _) | (with_reducible refine Bel.drw ?_) | (with_reducible refine Bel.al ?_ _))))⟩
            case measure => simp [intOf]; omega
          · obtain rfl : t = N := by omega
            have hz0 : S - psum L ((cks L).take t) = 0 := by
              rw [List.take_of_length_le (by rw [HN.out]; exact Nat.le_refl _), HSS.out]; omega
            rw [hz0]
            have HBF : Hid (Bel w ws) := HBW6.out.tr hbs
            clear hbs hz0
            go_wp2_with fail
            go_at_call 13
            refine (AW.out _ HBF.out).mono ?_
            rintro e v11 ⟨rfl, hb11⟩
            go_wp2
            go_ret
            exact ⟨rfl, (HBF.out.tr hb11).bl⟩

noncomputable def pinWorld (os : Os) : World := { World.doorLaid Tryz.prog 400 os with heap := (World.doorLaid Tryz.prog 400 os).heap.setIfInBounds 4 (.cells (Go.Pinned.utf8FirstZ.map fun (n : Nat) => Value.int .u8 (n : Int)).toArray 209 (0, 0)) }
theorem door_met (os : Os) (args : Array Value) : laidMetH Tryz.prog [("math/bits.deBruijn32tab", Rows.laid_math_bits_deBruijn32tab), ("math/bits.deBruijn64tab", Rows.laid_math_bits_deBruijn64tab), ("internal/strconv.uint64pow10", Rows.laid_internal_strconv_uint64pow10), ("unicode/utf8.acceptRanges", Rows.laid_unicode_utf8_acceptRanges), ("strconv.ErrRange", Rows.laid_strconv_ErrRange), ("strconv.ErrSyntax", Rows.laid_strconv_ErrSyntax), ("shapesearch/unit.powers", Rows.laid_shapesearch_unit_powers), ("unicode/utf8.first", Rows.laid_unicode_utf8_first)] ((pinWorld os).forCall (fun _ _ => 0) ⟨#[], args, []⟩).memory :=
  laidMetH_of_parts3 (fuel := 8) (laidMet_of_run' 8 (by kernel_rfl) (by kernel_rfl)) (by kernel_rfl) (by kernel_rfl)
set_option maxRecDepth 100000 in
theorem lifted (os : Os) (started : os.Started) (H : Type) (enc : TypeId × Value → H) :
    ReturnsInHanded {} Tryz.checked os 3 .any (fun w args => (Rows.topLosslessSpec.pre enc Tryz.prog Tryz.f3 [] false w args ∧ laidMetH Tryz.prog [("math/bits.deBruijn32tab", Rows.laid_math_bits_deBruijn32tab), ("math/bits.deBruijn64tab", Rows.laid_math_bits_deBruijn64tab), ("internal/strconv.uint64pow10", Rows.laid_internal_strconv_uint64pow10), ("unicode/utf8.acceptRanges", Rows.laid_unicode_utf8_acceptRanges), ("strconv.ErrRange", Rows.laid_strconv_ErrRange), ("strconv.ErrSyntax", Rows.laid_strconv_ErrSyntax), ("shapesearch/unit.powers", Rows.laid_shapesearch_unit_powers), ("unicode/utf8.first", Rows.laid_unicode_utf8_first)] w) ∧ sizedMet enc Tryz.prog Tryz.f3 (OpenSpec.ofChange Rows.topLosslessSpec) false w args)
      (Rows.topLosslessSpec.post enc Tryz.prog Tryz.f3 false true false false) := by
  refine returnsInHanded_of_change_and (C := Tryz.checked) (X := fun w _ => laidMetH Tryz.prog [("math/bits.deBruijn32tab", Rows.laid_math_bits_deBruijn32tab), ("math/bits.deBruijn64tab", Rows.laid_math_bits_deBruijn64tab), ("internal/strconv.uint64pow10", Rows.laid_internal_strconv_uint64pow10), ("unicode/utf8.acceptRanges", Rows.laid_unicode_utf8_acceptRanges), ("strconv.ErrRange", Rows.laid_strconv_ErrRange), ("strconv.ErrSyntax", Rows.laid_strconv_ErrSyntax), ("shapesearch/unit.powers", Rows.laid_shapesearch_unit_powers), ("unicode/utf8.first", Rows.laid_unicode_utf8_first)] w) (fun _ _ _ hh h => h.of_heap hh) own started (by kernel_rfl) Tryz.func3
    (ChangeSpec.witness_shaped (enc := enc) (C := Tryz.checked) (os := os) (X := fun w _ => laidMetH Tryz.prog [("math/bits.deBruijn32tab", Rows.laid_math_bits_deBruijn32tab), ("math/bits.deBruijn64tab", Rows.laid_math_bits_deBruijn64tab), ("internal/strconv.uint64pow10", Rows.laid_internal_strconv_uint64pow10), ("unicode/utf8.acceptRanges", Rows.laid_unicode_utf8_acceptRanges), ("strconv.ErrRange", Rows.laid_strconv_ErrRange), ("strconv.ErrSyntax", Rows.laid_strconv_ErrSyntax), ("shapesearch/unit.powers", Rows.laid_shapesearch_unit_powers), ("unicode/utf8.first", Rows.laid_unicode_utf8_first)] w) false (pinWorld os) #[.slice none 0 0, .int .u8 0] 8 rfl (World.shaped_of_RefB (by kernel_rfl) (by kernel_rfl)) (by kernel_rfl) (by kernel_rfl) (by kernel_rfl) (door_met os _)) ?_
  intro W base args ds gs before hval0 hW _ _ hL hsz
  have hval : ∀ (j : Nat) t v, Tryz.f3.params[j]? = some t → args[j]? = some v → Value.okWide Tryz.prog W .any base t v := hval0
  have hW' := hW
  obtain ⟨p, q, hA0, hV, rfl, hfz, hnd⟩ := hW
  have hA : DataW.TrodAll enc Tryz.prog W 0 (fun _ => true) true Tryz.f3.params.toList args.toList ds p := hA0
  rw [Tryz.params3] at hA hval
  obtain ⟨v0, vs0, d0, ds0, p0, q0, hargs, rfl, rfl, h0, r0⟩ := trodAll_cons hA
  obtain ⟨v1, vs1, d1, ds1, p1, q1, rfl, rfl, rfl, h1, r1⟩ := trodAll_cons r0
  obtain ⟨rfl, rfl, rfl⟩ := trodAll_nil r1
  obtain rfl : args = #[v0, v1] := by cases args; simp_all
  obtain ⟨rfl, rfl⟩ := trodVars_none hV
  obtain ⟨a0, len0, cap0, rfl⟩ := okWide_slice Tryz.underlying22 (hval 0 22 v0 rfl rfl)
  have k0 := h0
  have lt0 : ∀ x ∈ p0, x.block < W.heap.size := by obtain ⟨m, hm⟩ := k0; exact DataW.trod_lt m _ _ _ hm
  obtain ⟨z0, w0⟩ : ∃ zs, IsRow .i64 W a0 len0 cap0 zs := by
    obtain ⟨fuel, hf⟩ := h0
    rcases open_ints Tryz.underlying22 Tryz.underlying3 (by kernel_rfl) hf with ⟨hcs, _⟩ | ⟨x, l, c, zs, hcs, _, hl, hm, hz, _, hcell, hwz⟩
    · simp [Value.cells] at hcs
      obtain ⟨rfl, rfl, rfl⟩ := hcs
      exact ⟨[], .inl ⟨rfl, rfl, rfl, rfl⟩⟩
    · simp [Value.cells] at hcs
      obtain ⟨rfl, rfl, rfl⟩ := hcs
      exact ⟨zs, .inr ⟨_, rfl, hl, hm, by simpa using hz, hcell, hwz⟩⟩
  obtain ⟨a1, rfl, rfl, rfl, w1⟩ := open_int Tryz.underlying5 (hval 1 5 v1 rfl rfl) h1
  clear hA0 hval0
  refine (walk a0 len0 cap0 z0 a1 W (Tp.lt_of hL) w0 w1).mono fun e W' ⟨he, bel⟩ => ?_
  subst he
  exact ⟨_, rfl, _, _, _, [], _, [], hW', trodAll_mk1 (shut_bool Tryz.underlying4 _), (trodAll_cons_mk (Below.trod laidOut (by kernel_rfl) (of_decide_eq_true (by kernel_rfl)) k0 bel lt0) (trodAll_cons_mk (shut_int Tryz.underlying5 w1) trodAll_mk0)), rfl, bel.frame _, fun h => by cases h⟩

theorem over : Rows.topLosslessRow.holds Tryz.pinned (OpenSpec.ofChange Rows.topLosslessSpec) :=
  OpenClaim.holds_of_wide 3 Tryz.f3 rfl rfl rfl rfl rfl rfl rfl ⟨rfl, rfl, rfl, rfl, rfl⟩ rfl rfl rfl rfl rfl (by kernel_rfl) Tryz.func3 (by kernel_rfl)
    (of_decide_eq_true (by kernel_rfl)) (by unfold Func.isWrapper; first | (rw [if_pos (by decide +kernel)]; kernel_rfl) | (rw [if_neg (by decide +kernel)]; exact ⟨rfl, rfl⟩))
    (fun os started H enc _ => lifted os started H enc)

theorem proved : Rows.TopLosslessCardSaid :=
  Claim7.holds_tied_plain_at .later [] [.data, .data, .data, .data, .sentinel, .sentinel, .data, .pinned] true (true, "60be8fb1409295235409709c52a9f4b86daa3b870465fbc2e54aa951450a2bc1") true
    over (fun _ h => by cases h) (by kernel_rfl) (fun _ h => by cases h) topLossless_row_tie rfl ⟨rfl, rfl⟩ (by kernel_rfl) rfl
    (fun f fn hf hfn => by
      obtain rfl : f = 3 := Option.some.inj ((show Tryz.prog.funcNamed "shapesearch/shapesearchtop.TopLossless" = some 3 by kernel_rfl).symm.trans hf) |>.symm
      obtain rfl : fn = Tryz.f3 := (Option.some.inj (Tryz.func3.symm.trans hfn)).symm
      exact ⟨by kernel_rfl, fun j t ht => by
        rw [Tryz.params3] at ht
        have hm : t ∈ [22, 5] := by simpa using Array.mem_of_getElem? ht
        have hall : ([22, 5].all fun u => !Tryz.prog.wantsStandIn u) = true := by kernel_rfl
        exact (show Tryz.prog.wantsStandIn t = false by simpa using List.all_eq_true.1 hall t hm)⟩)
    (by kernel_rfl)
end Go.Proofs.YtnjojdmmalmhaaaGreatDoor.topLossless
