/- That the law ResampleRules returns true for every input that can be read, and leaves its arguments as they were; no further condition. -/
import Derived.Test.YtdkibffbaamkkaaRows
import Derived.WalkKit
import Derived.ProofKit
import Derived.OpenShut
import Derived.Test.YtdkibffbaamkkaaWords
import Derived.Test.YtdkibffbaamkkaaSrcNew0
import Derived.Test.YtdkibffbaamkkaaRul
import Derived.ShutString
import Derived.ChangeOld
import Derived.Below
namespace Go.Proofs.Ytdkibffbaamkkaa.resampleRules
open Go.ChangeShapes Go.WideShapes Go.ChangeAt Go.RowKit Wo
open Go.ChangeMaps (open_string shut_string)
set_option linter.unusedVariables false

theorem own : ownKnob Try.prog.godebug = none := by kernel_rfl
theorem laidOut : laidOutB Try.prog = true := by kernel_rfl

/-- WHAT THE WALK IS TOLD OF A SLICE OF INTEGERS THAT CAME IN: it is nil; or it leads to a row of 'cap' cells, the numbers 'zs' (the first 'len' are its elements, the rest its spare room), each fitting its kind. -/
def IsRow (k : IntKind) (w : World) (a : Option Addr) (len cap : Nat) (zs : List Int) : Prop :=
  (a = none ∧ len = 0 ∧ cap = 0 ∧ zs = []) ∨
  ∃ x, a = some x ∧ len ≤ cap ∧ cap ≤ maxLen ∧ zs.length = cap ∧ (∀ i, i < zs.length → w.cell? (x.add i) = some (.int k (zs.getD i 0))) ∧ ∀ n ∈ zs, (Lit.int k n).wf = true

open Go.Proofs.Ytdkibffbaamkkaa.Rg Go.Proofs.Ytdkibffbaamkkaa.Rm Go.Proofs.Ytdkibffbaamkkaa.Wi Go.Proofs.Ytdkibffbaamkkaa.Wo Go.Proofs.Ytdkibffbaamkkaa.Sr in
set_option maxHeartbeats 8000000 in
set_option maxRecDepth 100000 in
theorem walk (a0 : Option Addr) (len0 cap0 : Nat) (z0 : List Int) (a1 : Int) (a2 : Int) (w : World) (w0 : IsRow .i64 w a0 len0 cap0 z0) (w1 : (Lit.int .u8 a1).wf = true) (w2 : (Lit.int .u8 a2).wf = true) :
    Calls Try.prog 7 #[.slice a0 len0 cap0, .int .u8 a1, .int .u8 a2] w fun e w' => e = .returned (.bool true) ∧ Below w.heap.size w w' := by
  obtain ⟨t0, t1⟩ := bounds_u8 w1
  obtain ⟨p0, p1⟩ := bounds_u8 w2
  clear w1 w2
  have AW : Hid (∀ W, Calls Try.prog 23 #[] W fun e w' => e = .returned (.bool true) ∧ Bel W w') := awake_ok
  have HGR : Hid (∀ r q W, Calls Try.prog 22 #[.int .i64 r, .int .i64 q] W fun e w' => e = .returned (.agg #[.int .i64 0, .int .i64 1, .int .i64 0, .int .i64 r, .int .i64 q]) ∧ Bel W w') := grid_ok
  go_enter Try.func7, Try.ntmps7
  go_wp2_with fail
  go_at_call 13
  refine (new_any a0 len0 cap0 z0 w w0).mono ?_
  rintro e v1 ⟨g, rfl, hg, ho1, hb1⟩
  have HO1 := Lib.hid ho1
  have HB1 := Lib.hid hb1
  clear ho1 hb1 w0
  go_wp2_with fail
  go_at_call 20
  refine (ascending_any g 10 (by decide) _ HO1.out).mono ?_
  rintro e v2 ⟨v, k, l, rfl, hown, hl, hk, hs, hx0, ho2, hc2⟩
  have HB2 : Hid (Bel w v2) := Bel.ch HB1.out hc2 hg
  obtain ⟨A, ca, rfl, hz⟩ := own_zr hown hl
  have HZ := Lib.hid hz
  have HS := Lib.hid hs
  have HL := Lib.hid hl
  have ki : (k : Int) ≤ 10 := by omega
  have HAT : Hid (∀ (r q T : Int) W, 1 ≤ r → r ≤ 3 → 0 ≤ q → q ≤ 1000 → 0 ≤ T → T ≤ 1099511627776 → Bel v2 W → Calls Try.prog 21 #[.slice A k ca, .agg #[.int .i64 0, .int .i64 1, .int .i64 0, .int .i64 r, .int .i64 q], .int .i64 T] W fun e w' => e = .returned (.tuple #[.int .i64 (val l r q T).1, .bool (val l r q T).2]) ∧ Bel W w') := fun r q T W r0 r1 q0 q1 T0 T1 hW => at_ok A ca k l (by omega) hs 0 1 0 r q T (by unfold Gv; omega) T0 T1 W (hz.bel hW)
  clear hown ho2 hc2
  rcases Nat.eq_zero_or_pos k with hk0 | hkp
  · subst hk0
    obtain rfl : l = [] := List.length_eq_zero_iff.1 hl
    have H1 : Hid (∀ W, Bel v2 W → _) := fun W hW => HAT.out 1 5 3 W (by decide) (by decide) (by decide) (by decide) (by decide) (by decide) hW
    rw [show val [] 1 5 3 = (0, false) by kernel_rfl] at H1
    simp only [] at H1
    clear hz hs hl hx0 HAT
    go_wp2_with fail
    go_at_call 22
    refine (HGR.out _ _ _).mono ?_
    rintro e wg1 ⟨rfl, hb3⟩
    have HBg1 : Hid (Bel v2 wg1) := by first | exact Bel.rf.tr hb3 | exact (Bel.rf.drwN _).tr hb3
    clear hb3
    go_wp2_with fail
    go_at_call 21
    refine (H1.out _ (by first | exact HBg1.out | exact HBg1.out.drwN _)).mono ?_
    rintro e wa1 ⟨rfl, hb4⟩
    have HBa1 : Hid (Bel v2 wa1) := by first | exact HBg1.out.tr hb4 | exact (HBg1.out.drwN _).tr hb4
    clear hb4
    go_wp2_with (go_at_call 23; refine (AW.out _).mono ?_; rintro e w9 ⟨rfl, hb9⟩)
    go_ret
    exact ⟨rfl, (HB2.out.tr (by first | exact HBa1.out.tr hb9 | exact (HBa1.out.drwN _).tr hb9)).bl⟩
  · obtain ⟨gb, rfl, hgl, hgc⟩ := hz.2 hkp
    have c0 := (hgc 0 hkp).1
    rw [Nat.zero_mul] at c0
    have hX0 := hx0 hkp
    have hX1 := (hs.1 0 (by omega)).1
    obtain ⟨X, hX⟩ : ∃ X, tm l 0 = X := ⟨_, rfl⟩
    rw [hX] at c0 hX0 hX1
    obtain ⟨T, hT⟩ : ∃ T, X + a1 = T := ⟨_, rfl⟩
    have T0 : 0 ≤ T := by omega
    have T1 : T ≤ 1099511627776 := by omega
    have wT : wrap64 T = T := IntWalk.wrap64_in _ (by omega)
    have k0 : (0 : Int) < (k : Int) := by omega
    have kz : ((k : Int) == 0) = false := by simp; omega
    have H1 : Hid (∀ W, Bel v2 W → _) := fun W hW => HAT.out 1 a2 T W (by decide) (by decide) p0 (by omega) T0 T1 hW
    have H2 : Hid (∀ W, Bel v2 W → _) := fun W hW => HAT.out 2 a2 T W (by decide) (by decide) p0 (by omega) T0 T1 hW
    have H3 : Hid (∀ W, Bel v2 W → _) := fun W hW => HAT.out 3 a2 T W (by decide) (by decide) p0 (by omega) T0 T1 hW
    have HV1 := Lib.hid (val_hold hs T0 T1 p0 (show a2 ≤ 1000 by omega))
    have HV2 := Lib.hid (val_near hs T0 T1 p0 (show a2 ≤ 1000 by omega))
    have HV3 := Lib.hid (fun h => val_lin (l := l) (t := T) (r := a2) h)
    have HI : Hid (∀ i, i < k → ∀ r, 1 ≤ r → r ≤ 3 → ∀ W, Bel v2 W → Calls Try.prog 21 #[.slice (some ⟨gb, 0, none⟩) k ca, .agg #[.int .i64 0, .int .i64 1, .int .i64 0, .int .i64 r, .int .i64 0], .int .i64 (tm l i)] W fun e w' => e = .returned (.tuple #[.int .i64 (vl l i), .bool true]) ∧ Bel W w') := fun i hi r r0 r1 W hW => by
      have hv := val_at hs (i := i) (by omega) r 0
      have hh := hs.1 i (by omega)
      have := HAT.out r 0 (tm l i) W r0 r1 (by decide) (by decide) hh.1 hh.2.1 hW
      rwa [hv] at this
    have HC : Hid (∀ i, i < k → ∀ W, Bel v2 W → W.cell? ⟨gb, i * 2, none⟩ = some (.int .i64 (tm l i)) ∧ W.cell? ⟨gb, i * 2 + 1, none⟩ = some (.int .i64 (vl l i))) := fun i hi W hW => ⟨hW.kp (hgc i hi).1, hW.kp (hgc i hi).2⟩
    have HIN : Hid (∀ i, i < k → 0 ≤ tm l i ∧ tm l i ≤ 1099511627776) := fun i hi => ⟨(hs.1 i (by omega)).1, (hs.1 i (by omega)).2.1⟩
    obtain ⟨pA, hpA⟩ : ∃ p, val l 1 a2 T = p := ⟨_, rfl⟩
    obtain ⟨pB, hpB⟩ : ∃ p, val l 2 a2 T = p := ⟨_, rfl⟩
    obtain ⟨pC, hpC⟩ : ∃ p, val l 3 a2 T = p := ⟨_, rfl⟩
    rw [hpA] at H1 HV1 HV3
    rw [hpB] at H2 HV2 HV3
    rw [hpC] at H3 HV3
    obtain ⟨xA, bA⟩ := pA
    obtain ⟨xB, bB⟩ := pB
    obtain ⟨xC, bC⟩ := pC
    simp only [] at H1 H2 H3 HV1 HV2 HV3
    clear hz hs hl hx0 hgl hgc hX hpA hpB hpC HAT HS HZ
    go_wp2_with fail
    go_loopw [11, 12, 50] (fun s11 s12 s50 wr => ∃ (i : Nat) (V : World) (b c : Bool), V = wr ∧ i ≤ k ∧ s50 = .int .i64 (i : Int) ∧ s11 = .bool b ∧ s12 = .bool c ∧ (b = true ↔ ∃ j, j < i ∧ Ho l T a2 j) ∧ (c = true ↔ ∃ j, j < i ∧ Nf l T a2 j) ∧ Bel v2 wr) (fun _ _ s50 _ => k - (intOf s50).toNat)
    case atStart => exact ⟨0, _, false, false, rfl, by omega, rfl, rfl, rfl, by simp, by simp, by first | exact Bel.rf | exact Bel.rf.drwN _⟩
    case round =>
      obtain ⟨i, wr, b, c, hwr, hi, rfl, rfl, rfl, hB, hC, hb⟩ := hrel
      subst hwr
      have HB := Lib.hid hb
      have HHB := Lib.hid hB
      have HHC := Lib.hid hC
      clear c0
      rcases Nat.lt_or_ge i k with hlt | hge
      · obtain ⟨ci, cv⟩ := HC.out i hlt _ hb
        have HIi := Lib.hid (HI.out i hlt)
        obtain ⟨y0, y1⟩ := HIN.out i hlt
        have HCi := Lib.hid (HC.out i hlt)
        have hB2 : ∀ D, T - tm l i = D → ((b || (decide (0 ≤ D) && decide (D ≤ a2))) = true ↔ ∃ j, j < i + 1 ∧ Ho l T a2 j) := fun D hD => or_ex hB (by subst hD; simp [Ho])
        have hC2 : ∀ D M, T - tm l i = D → max D (-D) = M → ((c || decide (M ≤ a2)) = true ↔ ∃ j, j < i + 1 ∧ Nf l T a2 j) := fun D M hD hM => or_ex hC (by subst hD hM; rw [decide_eq_true_iff]; unfold Nf; omega)
        obtain ⟨y, hy⟩ : ∃ y, tm l i = y := ⟨_, rfl⟩
        obtain ⟨x, hx⟩ : ∃ x, vl l i = x := ⟨_, rfl⟩
        rw [hy] at ci y0 y1 HIi hB2 hC2 HCi
        rw [hx] at cv HIi HCi
        obtain ⟨D, hD⟩ : ∃ D, T - y = D := ⟨_, rfl⟩
        obtain ⟨M, hM⟩ : ∃ M, max D (-D) = M := ⟨_, rfl⟩
        have hB3 := hB2 D hD
        have hC3 := hC2 D M hD hM
        clear hB2 hC2 hB hC
        obtain ⟨b', hb'⟩ : ∃ b', (b || (decide (0 ≤ D) && decide (D ≤ a2))) = b' := ⟨_, rfl⟩
        obtain ⟨c', hc'⟩ : ∃ c', (c || decide (M ≤ a2)) = c' := ⟨_, rfl⟩
        rw [hb'] at hB3
        rw [hc'] at hC3
        have HB3 := Lib.hid hB3
        have HC3 := Lib.hid hC3
        have HBB := Lib.hid hb'
        have HCC := Lib.hid hc'
        have HMM := Lib.hid hM
        have D0 : -1099511627776 ≤ D ∧ D ≤ 1099511627776 := by omega
        obtain ⟨D0, D1⟩ := D0
        have wD : wrap64 D = D := IntWalk.wrap64_in _ (by omega)
        have ii : (i : Int) < (k : Int) := by omega
        clear hB3 hC3 hb' hc' hM hy hx hb
        go_upto_region 11 with fail
        go_cut [11] from 51 to 108 (fun s11 wx => ∃ V : World, V = wx ∧ s11 = .bool b' ∧ wr = V)
        case first =>
          have hb' := HBB.out
          rcases b with _ | _
          · rcases Int.lt_or_le D 0 with h0 | h0
            · have e : b' = false := by rw [← hb']; simp; omega
              subst e
              have hn : ¬ 0 ≤ D := by omega
              have hn2 : decide (0 ≤ D) = false := by simpa using h0
              clear hb'
              go_wp2_with fail
              go_meet
              exact ⟨_, rfl, rfl, rfl⟩
            · rcases Int.lt_or_le a2 D with h1 | h1
              · have e : b' = false := by rw [← hb']; simp; omega
                subst e
                have hn : ¬ D ≤ a2 := by omega
                clear hb'
                go_wp2_with fail
                go_meet
                exact ⟨_, rfl, rfl, rfl⟩
              · have e : b' = true := by rw [← hb']; simp; omega
                subst e
                clear hb'
                go_wp2_with fail
                go_meet
                exact ⟨_, rfl, rfl, rfl⟩
          · have e : b' = true := by rw [← hb']; simp
            subst e
            clear hb'
            go_wp2_with fail
            go_meet
            exact ⟨_, rfl, rfl, rfl⟩
        case rest =>
          obtain ⟨V9, hwx, rfl, hV9⟩ := hcut
          subst hwx
          subst hV9
          go_upto_region 12 with fail
          go_cut [12] from 51 to 108 (fun s12 wx => ∃ V : World, V = wx ∧ s12 = .bool c' ∧ wr = V)
          case first =>
            have hc' := HCC.out
            have hM := HMM.out
            rcases c with _ | _
            · clear hc'
              obtain ⟨E, hE⟩ : ∃ E, -D = E := ⟨_, rfl⟩
              have wE : wrap64 E = E := IntWalk.wrap64_in _ (by omega)
              rcases Int.lt_or_le D 0 with hs | hs
              · obtain rfl : M = E := by omega
                have q1 : D < M := by omega
                have q2 : ¬ M < D := by omega
                have q3 : D ≤ M := by omega
                have q4 : max D M = M := by omega
                clear hM hs
                rcases Int.lt_or_le a2 M with h1 | h1
                · have e : c' = false := by rw [← HCC.out]; simp; omega
                  subst e
                  have hn : ¬ M ≤ a2 := by omega
                  have hn2 : decide (M ≤ a2) = false := by simpa using h1
                  go_wp2_with fail
                  go_meet
                  exact ⟨_, rfl, rfl, rfl⟩
                · have e : c' = true := by rw [← HCC.out]; simp; omega
                  subst e
                  go_wp2_with fail
                  go_meet
                  exact ⟨_, rfl, rfl, rfl⟩
              · obtain rfl : M = D := by omega
                have q1 : ¬ M < E := by omega
                have q3 : E ≤ M := by omega
                have q4 : max M E = M := by omega
                clear hM hs
                rcases Int.lt_or_le a2 M with h1 | h1
                · have e : c' = false := by rw [← HCC.out]; simp; omega
                  subst e
                  have hn : ¬ M ≤ a2 := by omega
                  have hn2 : decide (M ≤ a2) = false := by simpa using h1
                  go_wp2_with fail
                  go_meet
                  exact ⟨_, rfl, rfl, rfl⟩
                · have e : c' = true := by rw [← HCC.out]; simp; omega
                  subst e
                  go_wp2_with fail
                  go_meet
                  exact ⟨_, rfl, rfl, rfl⟩
            · have e : c' = true := by rw [← hc']; simp
              subst e
              clear hc' hM
              go_wp2_with fail
              go_meet
              exact ⟨_, rfl, rfl, rfl⟩
          case rest =>
            obtain ⟨V9, hwx, rfl, hV9⟩ := hcut
            subst hwx
            subst hV9
            go_wp2_with fail
            go_loopw [15] (fun s15 wz => ∃ (r : Int) (V : World), V = wz ∧ 1 ≤ r ∧ r ≤ 4 ∧ s15 = .int .i64 r ∧ Bel v2 wz) (fun s15 _ => (4 - intOf s15).toNat)
            case atStart => exact ⟨1, _, rfl, by decide, by decide, rfl, by first | exact HB.out | exact HB.out.drwN _⟩
            case round =>
              obtain ⟨r, wz, hwz, r0, r1, rfl, hbz⟩ := hrel
              subst hwz
              have HBZ := Lib.hid hbz
              rcases Int.lt_or_le 3 r with hr | hr
              · obtain rfl : r = 4 := by omega
                clear hbz
                go_wp2
                go_roundw
                case rel => exact ⟨i + 1, _, b', c', rfl, by omega, by go_num, rfl, rfl, HB3.out, HC3.out, by first | exact HBZ.out | exact HBZ.out.drwN _⟩
                case measure => simp [intOf]; omega
              · have cz := (HCi.out _ hbz).1
                clear hbz ci cv
                go_wp2_with fail
                go_region_with (first
                  | (go_at_call 22; refine (HGR.out _ _ _).mono ?_; rintro e w7 ⟨rfl, hb7⟩; have HB7 : Hid (Bel v2 w7) := (by first | exact HBZ.out.tr hb7 | exact HBZ.out.drw.tr hb7 | exact (HBZ.out.drwN _).tr hb7); have c7 := (HCi.out _ HB7.out).1; clear hb7)
                  | (go_at_call 21; refine (HIi.out r r0 hr _ (by first | exact HB7.out | exact HB7.out.drw | exact HB7.out.drwN _)).mono ?_; rintro e w8 ⟨rfl, hb8⟩))
                all_goals
                  have HB8 : Hid (Bel v2 w8) := by first | exact HB7.out.tr hb8 | exact HB7.out.drw.tr hb8 | exact (HB7.out.drwN _).tr hb8
                  have c8 := (HCi.out _ HB8.out).2
                  have xx := ne_self x
                  clear hb8
                  go_wp2
                  go_roundw
                  case rel => exact ⟨r + 1, _, rfl, by omega, by omega, rfl, by first | exact HB8.out | exact HB8.out.drwN _⟩
                  case measure => simp [intOf]; omega
      · obtain rfl : i = k := by omega
        have hA : bA = b := bool_same (HV1.out.trans (by rw [HL.out]; exact hB.symm))
        have hN : bB = c := bool_same (HV2.out.trans (by rw [HL.out]; exact hC.symm))
        have hV3 := HV3.out
        subst hA hN
        clear hb hB hC
        rcases bA with _ | _ <;> rcases bB with _ | _ <;> rcases bC with _ | _
        all_goals first | (exfalso; have h9 := hV3 rfl; simp at h9; done) | skip
        all_goals
          clear hV3
          go_wp2_with fail
          go_at_call 22
          refine (HGR.out _ _ _).mono ?_
          rintro e wg1 ⟨rfl, hb3⟩
          have HBg1 : Hid (Bel v2 wg1) := by first | exact HB.out.tr hb3 | exact (HB.out.drwN _).tr hb3
          clear hb3
          go_wp2_with fail
          go_at_call 21
          refine (H1.out _ (by first | exact HBg1.out | exact HBg1.out.drwN _)).mono ?_
          rintro e wa1 ⟨rfl, hb4⟩
          have HBa1 : Hid (Bel v2 wa1) := by first | exact HBg1.out.tr hb4 | exact (HBg1.out.drwN _).tr hb4
          clear hb4
          go_wp2_with fail
          go_at_call 22
          refine (HGR.out _ _ _).mono ?_
          rintro e wg2 ⟨rfl, hb3⟩
          have HBg2 : Hid (Bel v2 wg2) := by first | exact HBa1.out.tr hb3 | exact (HBa1.out.drwN _).tr hb3
          clear hb3
          go_wp2_with fail
          go_at_call 21
          refine (H2.out _ (by first | exact HBg2.out | exact HBg2.out.drwN _)).mono ?_
          rintro e wa2 ⟨rfl, hb4⟩
          have HBa2 : Hid (Bel v2 wa2) := by first | exact HBg2.out.tr hb4 | exact (HBg2.out.drwN _).tr hb4
          clear hb4
          go_wp2_with fail
          go_at_call 22
          refine (HGR.out _ _ _).mono ?_
          rintro e wg3 ⟨rfl, hb3⟩
          have HBg3 : Hid (Bel v2 wg3) := by first | exact HBa2.out.tr hb3 | exact (HBa2.out.drwN _).tr hb3
          clear hb3
          go_wp2_with fail
          go_at_call 21
          refine (H3.out _ (by first | exact HBg3.out | exact HBg3.out.drwN _)).mono ?_
          rintro e wa3 ⟨rfl, hb4⟩
          have HBa3 : Hid (Bel v2 wa3) := by first | exact HBg3.out.tr hb4 | exact (HBg3.out.drwN _).tr hb4
          clear hb4
          go_wp2_with (go_at_call 23; refine (AW.out _).mono ?_; rintro e w9 ⟨rfl, hb9⟩)
          go_ret
          exact ⟨rfl, (HB2.out.tr (by first | exact HBa3.out.tr hb9 | exact (HBa3.out.drwN _).tr hb9)).bl⟩

set_option maxRecDepth 100000 in
theorem lifted (os : Os) (started : os.Started) (H : Type) (enc : TypeId × Value → H) :
    ReturnsInHanded {} Try.checked os 7 .any (Rows.resampleRulesSpec.pre6 enc Try.prog Try.f7 Rows.resampleRulesRow.domain false) (Rows.resampleRulesSpec.post enc Try.prog Try.f7 false true false false) := by
  refine returnsInHanded_of_change (C := Try.checked) own started (by kernel_rfl) Try.func7
    (ChangeSpec.witness6 (enc := enc) (C := Try.checked) false ⟨#[], #[.slice none 0 0, .int .u8 0, .int .u8 0], []⟩ 8 (by kernel_rfl) (by kernel_rfl) (by kernel_rfl) (by kernel_rfl)) ?_
  intro W base args ds gs before hval0 hW hcnd _
  have hval : ∀ (j : Nat) t v, Try.f7.params[j]? = some t → args[j]? = some v → Value.okWide Try.prog W .any base t v := hval0
  have hW' := hW
  obtain ⟨p, q, hA0, hV, rfl, hfz, hnd⟩ := hW
  have hA : DataW.TrodAll enc Try.prog W 0 (fun _ => true) true Try.f7.params.toList args.toList ds p := hA0
  rw [Try.params7] at hA hval
  obtain ⟨v0, vs0, d0, ds0, p0, q0, hargs, rfl, rfl, h0, r0⟩ := trodAll_cons hA
  obtain ⟨v1, vs1, d1, ds1, p1, q1, rfl, rfl, rfl, h1, r1⟩ := trodAll_cons r0
  obtain ⟨v2, vs2, d2, ds2, p2, q2, rfl, rfl, rfl, h2, r2⟩ := trodAll_cons r1
  obtain ⟨rfl, rfl, rfl⟩ := trodAll_nil r2
  obtain rfl : args = #[v0, v1, v2] := by cases args; simp_all
  obtain ⟨rfl, rfl⟩ := trodVars_none hV
  obtain ⟨a0, len0, cap0, rfl⟩ := okWide_slice Try.underlying22 (hval 0 22 v0 rfl rfl)
  have k0 := h0
  have lt0 : ∀ x ∈ p0, x.block < W.heap.size := by obtain ⟨m, hm⟩ := k0; exact DataW.trod_lt m _ _ _ hm
  obtain ⟨z0, w0⟩ : ∃ zs, IsRow .i64 W a0 len0 cap0 zs := by
    obtain ⟨fuel, hf⟩ := h0
    rcases open_ints Try.underlying22 Try.underlying3 (by kernel_rfl) hf with ⟨hcs, _⟩ | ⟨x, l, c, zs, hcs, _, hl, hm, hz, _, hcell, hwz⟩
    · simp [Value.cells] at hcs
      obtain ⟨rfl, rfl, rfl⟩ := hcs
      exact ⟨[], .inl ⟨rfl, rfl, rfl, rfl⟩⟩
    · simp [Value.cells] at hcs
      obtain ⟨rfl, rfl, rfl⟩ := hcs
      exact ⟨zs, .inr ⟨_, rfl, hl, hm, by simpa using hz, hcell, hwz⟩⟩
  obtain ⟨a1, rfl, rfl, rfl, w1⟩ := open_int Try.underlying5 (hval 1 5 v1 rfl rfl) h1
  obtain ⟨a2, rfl, rfl, rfl, w2⟩ := open_int Try.underlying5 (hval 2 5 v2 rfl rfl) h2
  clear hA0 hval0
  refine (walk a0 len0 cap0 z0 a1 a2 W w0 w1 w2).mono fun e W' ⟨he, bel⟩ => ?_
  subst he
  exact ⟨_, rfl, _, _, _, [], _, [], hW', trodAll_mk1 (shut_bool Try.underlying4 _), (trodAll_cons_mk (Below.trod laidOut (by kernel_rfl) (of_decide_eq_true (by kernel_rfl)) k0 bel lt0) (trodAll_cons_mk (shut_int Try.underlying5 w1) (trodAll_cons_mk (shut_int Try.underlying5 w2) trodAll_mk0))), rfl, bel.frame _, fun h => by cases h⟩

theorem over : Rows.resampleRulesRow.holds Try.pinned (OpenSpec.ofChange Rows.resampleRulesSpec) :=
  OpenClaim.holds_of_wide 7 Try.f7 rfl rfl rfl rfl rfl rfl rfl ⟨rfl, rfl, rfl, rfl, rfl⟩ rfl rfl rfl rfl rfl (by kernel_rfl) Try.func7 (by kernel_rfl)
    (of_decide_eq_true (by kernel_rfl)) (by unfold Func.isWrapper; first | (rw [if_pos (by decide +kernel)]; kernel_rfl) | (rw [if_neg (by decide +kernel)]; exact ⟨rfl, rfl⟩))
    (fun os started H enc _ => lifted os started H enc)

theorem proved : Rows.ResampleRulesSaid := over
end Go.Proofs.Ytdkibffbaamkkaa.resampleRules
