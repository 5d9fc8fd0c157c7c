/- slices.insertionSortCmpFunc, swapRangeCmpFunc, rotateCmpFunc over readings, by time. -/
import Derived.Test.YtgcjangnlbhicaaStW
namespace Go.Proofs.Ytgcjangnlbhicaa.St
open Go.ChangeShapes Go.WideShapes Go.RowKit Wo Sr Wi Rm Rg
set_option linter.unusedVariables false
/-- the row is sorted in place -/
def SomeSort (g n a b : Nat) (l : List Rp) (w : World) (e : Ending) (w' : World) : Prop := e = .returned (.tuple #[]) ∧ ∃ l', Rw w' g n l' ∧ Mv l l' a b ∧ Srt l' a b ∧ Ch g w w'
set_option maxHeartbeats 8000000 in
set_option maxRecDepth 100000 in
theorem insertion_ok (g c n a b : Nat) (l : List Rp) (hn : n ≤ 100000) (hnc : n ≤ c) (hab : a ≤ b) (hbn : b ≤ n) (w : World) (h : Rw w g n l) :
    Calls Try.prog 47 #[.slice (some ⟨g, 0, none⟩) n c, .int .i64 (a : Int), .int .i64 (b : Int), ord] w (SomeSort g n a b l w) := by
  have H0 := Lib.hid h
  have hl := h.1
  have ni : (n : Int) ≤ 100000 := by omega
  have bi : (b : Int) ≤ (n : Int) := by omega
  have ai : (a : Int) ≤ (b : Int) := by omega
  unfold ord
  clear h
  go_enter Try.func47, Try.ntmps47
  go_wp2
  go_loopw [8] (fun s8 wr => ∃ (i : Nat) (V : World) (l1 : List Rp), V = wr ∧ a < i ∧ (i ≤ b ∨ i = a + 1) ∧ s8 = .int .i64 (i : Int) ∧ Rw wr g n l1 ∧ Mv l l1 a b ∧ Srt l1 a i ∧ Ch g w wr) (fun s8 _ => b - (intOf s8).toNat)
  case atStart => exact ⟨a + 1, _, l, rfl, by omega, .inr rfl, by go_num, H0.out, Rm.Mv.rf _ _ _, fun p q h1 h2 h3 => by omega, Ch.rf⟩
  case round =>
    obtain ⟨i, wr, l1, hwr, hai, hib, rfl, hr, hmv, hs, hc⟩ := hrel
    subst hwr
    have HR := Lib.hid hr
    have HM := Lib.hid hmv
    have HS := Lib.hid hs
    have HC := Lib.hid hc
    clear hr hmv hs hc
    rcases Nat.lt_or_ge i b with hlt | hge
    · have ti : (i : Int) < (b : Int) := by omega
      go_wp2
      go_loopw [9] (fun s9 wq => ∃ (j : Nat) (V : World) (l2 : List Rp), V = wq ∧ a ≤ j ∧ j ≤ i ∧ s9 = .int .i64 (j : Int) ∧ Rw wq g n l2 ∧ Mv l l2 a b ∧ Ins l2 a i j ∧ Ch g w wq) (fun s9 _ => (intOf s9).toNat)
      case atStart => exact ⟨i, _, l1, rfl, by omega, by omega, rfl, HR.out, HM.out, ins_start HS.out, HC.out⟩
      case round =>
        obtain ⟨j, wq, l2, hwq, haj, hji, rfl, hr, hmv, hins, hc⟩ := hrel
        subst hwq
        have HR2 := Lib.hid hr
        have HM2 := Lib.hid hmv
        have HI2 := Lib.hid hins
        have HC2 := Lib.hid hc
        have l2l : l2.length = n := hr.1
        clear hr hmv hins hc
        rcases Nat.lt_or_ge a j with hja | hja
        · obtain ⟨q, hjq⟩ : ∃ q, j = q + 1 := ⟨j - 1, by omega⟩
          have cj := HR2.out.2.2 j (by omega)
          have cq := HR2.out.2.2 q (by omega)
          obtain ⟨t1, ht1⟩ : ∃ x, tm l2 j = x := ⟨_, rfl⟩
          obtain ⟨u1, hu1⟩ : ∃ x, vl l2 j = x := ⟨_, rfl⟩
          obtain ⟨t0, ht0⟩ : ∃ x, tm l2 q = x := ⟨_, rfl⟩
          obtain ⟨u0, hu0⟩ : ∃ x, vl l2 q = x := ⟨_, rfl⟩
          rw [ht1, hu1] at cj
          rw [ht0, hu0] at cq
          have HT := Lib.hid (And.intro ht1 (And.intro hu1 (And.intro ht0 hu0)))
          have HKS : Hid (∀ W, Bel wq W → Bel wq W ∧ W.cell? ⟨g, j * 2, none⟩ = some (.int .i64 t1) ∧ W.cell? ⟨g, j * 2 + 1, none⟩ = some (.int .i64 u1) ∧ W.cell? ⟨g, q * 2, none⟩ = some (.int .i64 t0) ∧ W.cell? ⟨g, q * 2 + 1, none⟩ = some (.int .i64 u0)) := fun W hW => ⟨hW, hW.kp cj.1, hW.kp cj.2.1, hW.kp cq.1, hW.kp cq.2.1⟩
          obtain ⟨c1, c2, f1, f2⟩ := cj
          obtain ⟨c3, c4, f3, f4⟩ := cq
          have HOK : Hid (∀ W, Calls Try.prog 39 #[.agg #[.int .i64 t1, .int .i64 u1], .agg #[.int .i64 t0, .int .i64 u0]] W fun e w' => e = .returned (.int .i64 (cm t1 t0)) ∧ Bel W w') := ord_ok t1 u1 t0 u0
          obtain ⟨C, hC⟩ : ∃ x, cm t1 t0 = x := ⟨_, rfl⟩
          have hCl := cm_lt t1 t0
          rw [hC] at HOK hCl
          have HCL := Lib.hid hCl
          clear hCl
          have HJQ := Lib.hid hjq
          have jn : (j : Int) < (n : Int) := by omega
          have j0 : (0 : Int) ≤ (j : Int) := by omega
          have qn : (q : Int) < (n : Int) := by omega
          have q0 : (0 : Int) ≤ (q : Int) := by omega
          have ja : (a : Int) < (j : Int) := by omega
          have jq : (j : Int) - 1 = (q : Int) := by omega
          have wq1 : IntKind.i64.wrap (q : Int) = (q : Int) := IntWalk.i64_in _ (by omega)
          have wq2 : IntKind.i64.wrap ((j : Int) - 1) = (q : Int) := by rw [jq]; exact wq1
          clear ht1 hu1 ht0 hu0 hC hjq
          go_wp2_with fail
          go_region_held3 (fun W => Bel wq W ∧ W.cell? ⟨g, j * 2, none⟩ = some (.int .i64 t1) ∧ W.cell? ⟨g, j * 2 + 1, none⟩ = some (.int .i64 u1) ∧ W.cell? ⟨g, q * 2, none⟩ = some (.int .i64 t0) ∧ W.cell? ⟨g, q * 2 + 1, none⟩ = some (.int .i64 u0)) ((refine HKS.out _ ?_; repeat (first | exact HBX.out | exact Bel.rf | (with_reducible refine Bel.drwN ?_ _) | (with_reducible refine Bel.drw ?_)))) (first
            | (go_at_call 39; refine (HOK.out _).mono ?_; rintro e wz ⟨rfl, hbz⟩; have HBX : Hid (Bel wq wz) := Bel.tr (by repeat (first | exact Bel.rf | (with_reducible refine Bel.drwN ?_ _) | (with_reducible refine Bel.drw ?_))) hbz; clear hbz))
          have HRz := Lib.hid (HR2.out.bel HBX.out)
          have HCz : Hid (Ch g w wz) := HC2.out.tr (Ch.of_bel HBX.out)
          obtain ⟨_, d1, d2, d3, d4⟩ := HKS.out wz HBX.out
          have e1 := (HRz.out.2.2 j (by omega)).2.2
          have e2 := (HRz.out.2.2 q (by omega)).2.2
          obtain ⟨e1a, e1b⟩ := e1
          obtain ⟨e2a, e2b⟩ := e2
          clear c1 c2 f1 f2 c3 c4 f3 f4
          rcases Int.lt_or_le C 0 with hlt2 | hge2
          · have dC : decide (C < 0) = true := decide_eq_true hlt2
            go_wp2
            have HJ2 := HJQ.out
            have HT2 := HT.out
            have hsw : Rw ((((wz.setCell ⟨g, j * 2, none⟩ (.int .i64 t0)).setCell ⟨g, j * 2 + 1, none⟩ (.int .i64 u0)).setCell ⟨g, q * 2, none⟩ (.int .i64 t1)).setCell ⟨g, q * 2 + 1, none⟩ (.int .i64 u1)) g n (Rm.swp l2 j q) := by
              have := HRz.out.swp j q (by omega) (by omega)
              rwa [HT2.1, HT2.2.1, HT2.2.2.1, HT2.2.2.2] at this
            have hlt3 : tm l2 (q + 1) < tm l2 q := by rw [← HJ2, HT2.1, HT2.2.2.1]; exact HCL.out.1 hlt2
            have hEQ : Rm.swp l2 j q = Rm.swp l2 q (q + 1) := by rw [HJ2]; exact Rm.swp_comm _ _ _ (by omega)
            rw [hEQ] at hsw
            have HSW := Lib.hid hsw
            have HMV : Hid (Mv l (Rm.swp l2 q (q + 1)) a b) := HM2.out.tr (mv_swp l2 q a b (by omega) (by omega) (by omega) (by omega)) (Nat.le_refl _) (Nat.le_refl _)
            have HIN : Hid (Ins (Rm.swp l2 q (q + 1)) a i q) := ins_step (by have := HI2.out; rwa [HJ2] at this) (by omega) (by omega) (by omega) hlt3
            have HCH : Hid (Ch g w ((((wz.setCell ⟨g, j * 2, none⟩ (.int .i64 t0)).setCell ⟨g, j * 2 + 1, none⟩ (.int .i64 u0)).setCell ⟨g, q * 2, none⟩ (.int .i64 t1)).setCell ⟨g, q * 2 + 1, none⟩ (.int .i64 u1))) := (((HCz.out.st _ _).st _ _).st _ _).st _ _
            clear hsw hlt3 hEQ HT2 HJ2
            go_region
            all_goals
              go_wp2
              exact ⟨⟨q, _, Rm.swp l2 q (q + 1), rfl, by have := HJQ.out; omega, by have := HJQ.out; omega, rfl, by first | exact HSW.out | exact HSW.out.bel Bel.rf.drw | exact HSW.out.bel (Bel.rf.drwN _), HMV.out, HIN.out, by first | exact HCH.out | exact HCH.out.drw | exact HCH.out.drwN _⟩, by have := HJQ.out; simp [intOf]; omega⟩
          · have dC : decide (C < 0) = false := decide_eq_false (by omega)
            have nC : ¬ C < 0 := by omega
            have hle : tm l2 (j - 1) ≤ tm l2 j := by
              have h1 := HT.out
              have h2 := HJQ.out
              rw [show j - 1 = q by omega, h1.1, h1.2.2.1]
              have : ¬ t1 < t0 := fun h => nC (HCL.out.2 h)
              omega
            have HLE := Lib.hid (ins_end HI2.out hji (.inr ⟨hja, hle⟩))
            clear hle
            go_wp2
            go_roundw
            case rel => exact ⟨i + 1, _, l2, rfl, by omega, .inl (by omega), by go_num, by first | exact HRz.out | exact HRz.out.bel (Bel.rf.drwN _), HM2.out, HLE.out, by first | exact HCz.out | exact HCz.out.drwN _⟩
            case measure => simp [intOf]; omega
        · obtain rfl : j = a := by omega
          go_wp2_with fail
          go_quiet (fail)
          go_wp2
          go_roundw
          case rel => exact ⟨i + 1, _, l2, rfl, by omega, .inl (by omega), by go_num, by first | exact HR2.out | exact HR2.out.bel (Bel.rf.drwN _), HM2.out, ins_end HI2.out (by omega) (.inl rfl), by first | exact HC2.out | exact HC2.out.drwN _⟩
          case measure => simp [intOf]; omega
    · have hs2 : Srt l1 a b := by
        rcases hib with h | h
        · obtain rfl : i = b := by omega
          exact HS.out
        · intro p q h1 h2 h3; omega
      have HS2 := Lib.hid hs2
      have ti : ¬ (i : Int) < (b : Int) := by omega
      have td : decide ((i : Int) < (b : Int)) = false := decide_eq_false ti
      clear hs2
      go_wp2
      go_end0
      exact ⟨rfl, l1, HR.out, HM.out, HS2.out, HC.out⟩
end Go.Proofs.Ytgcjangnlbhicaa.St
