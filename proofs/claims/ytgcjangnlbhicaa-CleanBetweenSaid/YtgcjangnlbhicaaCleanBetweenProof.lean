/- That the law CleanBetween returns true for every input that can be read, and leaves its arguments as they were; no further condition. -/
import Derived.Test.YtgcjangnlbhicaaRows
import Derived.WalkKit
import Derived.ProofKit
import Derived.OpenShut
import Derived.Test.YtgcjangnlbhicaaWords
import Derived.Test.YtgcjangnlbhicaaSrcNew0
import Derived.Test.YtgcjangnlbhicaaStB
import Derived.ShutString
import Derived.ChangeOld
import Derived.Below
namespace Go.Proofs.Ytgcjangnlbhicaa.cleanBetween
open Go.ChangeShapes Go.WideShapes Go.ChangeAt Go.RowKit Wo
open Go.ChangeMaps (open_string shut_string)
set_option linter.unusedVariables false

theorem own : ownKnob Try.prog.godebug = none := by kernel_rfl
theorem laidOut : laidOutB Try.prog = true := by kernel_rfl

/-- WHAT THE WALK IS TOLD OF A SLICE OF INTEGERS THAT CAME IN: it is nil; or it leads to a row of 'cap' cells, the numbers 'zs' (the first 'len' are its elements, the rest its spare room), each fitting its kind. -/
def IsRow (k : IntKind) (w : World) (a : Option Addr) (len cap : Nat) (zs : List Int) : Prop :=
  (a = none ∧ len = 0 ∧ cap = 0 ∧ zs = []) ∨
  ∃ x, a = some x ∧ len ≤ cap ∧ cap ≤ maxLen ∧ zs.length = cap ∧ (∀ i, i < zs.length → w.cell? (x.add i) = some (.int k (zs.getD i 0))) ∧ ∀ n ∈ zs, (Lit.int k n).wf = true

open Go.Proofs.Ytgcjangnlbhicaa.St Go.Proofs.Ytgcjangnlbhicaa.Pk Go.Proofs.Ytgcjangnlbhicaa.Rg Go.Proofs.Ytgcjangnlbhicaa.Rm Go.Proofs.Ytgcjangnlbhicaa.Wi Go.Proofs.Ytgcjangnlbhicaa.Wo Go.Proofs.Ytgcjangnlbhicaa.Sr in
set_option maxHeartbeats 8000000 in
set_option maxRecDepth 100000 in
set_option linter.unusedSimpArgs false in
theorem walk (a0 : Option Addr) (len0 cap0 : Nat) (z0 : List Int) (w : World) (w0 : IsRow .i64 w a0 len0 cap0 z0) :
    Calls Try.prog 6 #[.slice a0 len0 cap0] w fun e w' => e = .returned (.bool true) ∧ Below w.heap.size w w' := by
  have AW : Hid (∀ W, Calls Try.prog 12 #[] W fun e w' => e = .returned (.bool true) ∧ Bel W w') := awake_any
  go_enter Try.func6, Try.ntmps6
  go_wp2_with fail
  go_at_call 8
  refine (new_any a0 len0 cap0 z0 w w0).mono ?_
  rintro e v1 ⟨g, rfl, hg, ho1, hb1⟩
  have HO1 := Lib.hid ho1
  have HB1 := Lib.hid hb1
  clear ho1 hb1 w0
  go_wp2_with fail
  go_at_call 9
  refine (readings_new g 25 (by decide) _ HO1.out).mono ?_
  rintro e v2 ⟨v, k, l, rfl, hown, hl, hk, hv, ho2, hc2⟩
  have HB2 : Hid (Bel w v2) := Bel.ch HB1.out hc2 hg
  obtain ⟨A, ca, rfl, hz, hA⟩ := own_zn hown hl
  have HZ : Hid (∀ W, Bel v2 W → Zo W A k l) := fun W hW => Zo.bel (Zr.zo hz) hW
  have HZR := Lib.hid hz
  have HV := Lib.hid hv
  have HL := Lib.hid hl
  have HA := Lib.hid hA
  have kk : (k : Int) ≤ 25 := by omega
  have HO2 := Lib.hid ho2
  have HC2 := Lib.hid hc2
  clear hown hz hv hl ho2 hc2 hA
  obtain ⟨nb, hnb⟩ : ∃ x, (uts l).length = x := ⟨_, rfl⟩
  have hnk : nb ≤ k := by have := uts_le l; have := HL.out; omega
  have HNB := Lib.hid hnb
  have HLN : Hid (∀ p, (cln p l).length = nb) := fun p => by rw [cln_len, uts_len]; exact hnb
  clear hnb
  have HB0 : Hid (Bk (v2.alloc (.cells #[.slice none 0 0, .slice none 0 0, .slice none 0 0, .slice none 0 0, .slice none 0 0, .slice none 0 0] 41)) v2.heap.size 41 #[.slice none 0 0, .slice none 0 0, .slice none 0 0, .slice none 0 0, .slice none 0 0, .slice none 0 0]) := Bk.nw _ _ _
  go_wp2
  go_loopw [5] (fun s5 wr => ∃ (p : Nat) (V : World) (cv : Array Value), V = wr ∧ 1 ≤ p ∧ p ≤ 6 ∧ s5 = .int .i64 (p : Int) ∧ Bk wr v2.heap.size 41 cv ∧ cv.size = 6 ∧ Bel v2 wr ∧ ∀ q, 1 ≤ q → q < p → Ent v2.heap.size wr cv nb (cln q l) q) (fun s5 _ => 6 - (intOf s5).toNat)
  case atStart => exact ⟨1, _, _, rfl, by omega, by omega, rfl, HB0.out, rfl, Bel.rf.al _, fun q h1 h2 => by omega⟩
  case round =>
    obtain ⟨p, wr, cv, hwr, hp1, hp6, rfl, hbk, hcv, hb, hen⟩ := hrel
    subst hwr
    have HBK := Lib.hid hbk
    have HCV := Lib.hid hcv
    have HB := Lib.hid hb
    have HEN := Lib.hid hen
    clear hbk hcv hb hen HB0
    rcases Nat.lt_or_ge p 6 with hlt | hge
    · have pi5 : (p : Int) ≤ 5 := by omega
      have pi0 : (0 : Int) ≤ (p : Int) := by omega
      have pn6 : (p : Int) < 6 := by omega
      go_wp2_with fail
      go_at_call 10
      refine (clean_ok A ca k l (p : Int) (by omega) (by omega) (by omega) HV.out _ (HZ.out _ (by repeat (first | exact HB.out | (with_reducible refine Bel.drwN ?_ _) | (with_reducible refine Bel.drw ?_) | (with_reducible refine Bel.al ?_ _)))) HA.out (fun h => by omega)).mono ?_
      rintro e w4 ⟨vr, rfl, ho, hb⟩
      rw [HLN.out] at ho
      obtain ⟨A4, c4, rfl, hz4, _, hb4⟩ := own_znb ho (HLN.out _)
      have hwr4 : Bel wr w4 := Bel.tr (by repeat (first | exact Bel.rf | (with_reducible refine Bel.drwN ?_ _) | (with_reducible refine Bel.drw ?_) | (with_reducible refine Bel.al ?_ _))) hb
      have hk4 := HBK.out.bel hwr4
      obtain ⟨u, hu⟩ : ∃ u, cv[p]? = some u := ⟨cv[p]'(by rw [HCV.out]; exact hlt), Array.getElem?_eq_getElem (by rw [HCV.out]; exact hlt)⟩
      have k1 := hk4.cell p
      rw [hu] at k1
      have k2 := hk4.fr p
      obtain ⟨W5, hW5⟩ : ∃ W5, w4.setCell ⟨v2.heap.size, p, none⟩ (.slice A4 nb c4) = W5 := ⟨_, rfl⟩
      have hne4 : ∀ b, A4 = some ⟨b, 0, none⟩ → b ≠ v2.heap.size := fun b e => by have := hb4 b e; have := HBK.out.lt; simp at *; omega
      have HN5 : Hid (Bk W5 v2.heap.size 41 (cv.setIfInBounds p (.slice A4 nb c4)) ∧ Bel v2 W5 ∧ ∀ q, 1 ≤ q → q < p + 1 → Ent v2.heap.size W5 (cv.setIfInBounds p (.slice A4 nb c4)) nb (cln q l) q) := by
        rw [← hW5]
        refine ⟨hk4.st p _, Bel.st2 (Nat.le_refl _) (HB.out.tr hwr4) _, fun q h1 h2 => ?_⟩
        rcases Nat.lt_or_ge q p with h | h
        · exact ((HEN.out q h1 h).bel hwr4).st (by omega) _
        · obtain rfl : q = p := by omega
          exact Ent.new (by rw [HCV.out]; exact hlt) hz4 hne4
      have c5 : W5.cell? (⟨v2.heap.size, p, none⟩ : Addr) = some (.slice A4 nb c4) := by
        have := HN5.out.1.cell p
        rw [Array.getElem?_setIfInBounds_self_of_lt (by rw [HCV.out]; exact hlt)] at this
        exact this
      have HW5 := Lib.hid hW5
      clear ho hb hz4 hb4 hwr4 hk4 hu hne4 hW5
      have HKS : Hid (∀ W, Bel W5 W → Bel W5 W ∧ W.cell? (⟨v2.heap.size, p, none⟩ : Addr) = some (.slice A4 nb c4)) := fun W hW => ⟨hW, hW.kp c5⟩
      have HTM : Hid (∀ W, Bel W5 W → Calls Try.prog 17 #[.slice A k ca] W fun e w' => ∃ B c, e = .returned (.slice B nb c) ∧ Bel W w') := fun W hW => by
        refine (times_ok A ca k l (by omega) W (HZ.out W (HN5.out.2.1.tr hW))).mono ?_
        rintro e w' ⟨B, c, rfl, _, hb⟩
        rw [HNB.out]
        exact ⟨B, c, rfl, hb⟩
      have nn := ne_self (nb : Int)
      go_wp2_with fail
      rw [HW5.out]
      clear k1 k2
      refine wp_region_noPanic ?_
      refine wp_region_held_drew (S := fun W => Bel W5 W ∧ W.cell? (⟨v2.heap.size, p, none⟩ : Addr) = some (.slice A4 nb c4)) (by kernel_rfl) ?_ (fun hH0 => ?_)
      · (try dsimp only); (refine HKS.out _ ?_; repeat (first | exact HBX.out | exact Bel.rf | (with_reducible refine Bel.drwN ?_ _) | (with_reducible refine Bel.drw ?_)))
      refine wpAnyH_take (i := 0) (oi := ⟨some 27, .move (.tmp 6), 29, "law.go:128", #[], none⟩) (v := ?_) rfl (by kernel_rfl) (by kernel_rfl) (by kernel_rfl) (fun _ _ _ h => h) (Or.inl ⟨by first | kernel_rfl | rfl, ?_⟩) (by assumption) ?_
      rotate_left
      · (intro w hSw; (try dsimp only at hSw); obtain ⟨_, d1⟩ := hSw; go_simp; try with_reducible rfl)
      try simp only [Act.put, List.setIfInBounds_toArray, List.set_cons_zero, List.set_cons_succ]
      refine wpAnyH_take (i := 1) (oi := ⟨some 28, .binOp BinOp.neq 29 (.tmp 27) (.const (.int IntKind.i64 0)) 29, 4, "law.go:128", #[⟨0, .data⟩], none⟩) (v := ?_) rfl (by kernel_rfl) (by kernel_rfl) (by kernel_rfl) (fun _ _ _ h => h) (Or.inl ⟨by first | kernel_rfl | rfl, ?_⟩) (by assumption) ?_
      rotate_left
      · (intro w hSw; (try dsimp only at hSw); obtain ⟨_, d1⟩ := hSw; go_simp; try with_reducible rfl)
      try simp only [Act.put, List.setIfInBounds_toArray, List.set_cons_zero, List.set_cons_succ]
      refine wpAnyH_take (i := 2) (oi := ⟨some 29, .move (.tmp 28), 4, "law.go:128", #[⟨1, .data⟩], none⟩) (v := ?_) rfl (by kernel_rfl) (by kernel_rfl) (by kernel_rfl) (fun _ _ _ h => h) (Or.inl ⟨by first | kernel_rfl | rfl, ?_⟩) (by assumption) ?_
      rotate_left
      · (intro w hSw; (try dsimp only at hSw); obtain ⟨_, d1⟩ := hSw; go_simp; try with_reducible rfl)
      try simp only [Act.put, List.setIfInBounds_toArray, List.set_cons_zero, List.set_cons_succ]
      refine wpAnyH_take (i := 3) (oi := ⟨some 30, .move (.tmp 5), 3, "law.go:128", #[⟨2, .guard⟩], some (2, Bool.false)⟩) (v := ?_) rfl (by kernel_rfl) (by kernel_rfl) (by kernel_rfl) (fun _ _ _ h => h) (Or.inl ⟨by first | kernel_rfl | rfl, ?_⟩) (by assumption) ?_
      rotate_left
      · (intro w hSw; (try dsimp only at hSw); obtain ⟨_, d1⟩ := hSw; go_simp; try with_reducible rfl)
      try simp only [Act.put, List.setIfInBounds_toArray, List.set_cons_zero, List.set_cons_succ]
      refine wpAnyH_take (i := 4) (oi := ⟨some 31, .indexAddr 41 (.tmp 4) (.tmp 30), 0, "law.go:128", #[⟨3, .data⟩, ⟨2, .guard⟩], some (2, Bool.false)⟩) (v := ?_) rfl (by kernel_rfl) (by kernel_rfl) (by kernel_rfl) (fun _ _ _ h => h) (Or.inl ⟨by first | kernel_rfl | rfl, ?_⟩) (by assumption) ?_
      rotate_left
      · (intro w hSw; (try dsimp only at hSw); obtain ⟨_, d1⟩ := hSw; go_simp; try with_reducible rfl)
      try simp only [Act.put, List.setIfInBounds_toArray, List.set_cons_zero, List.set_cons_succ]
      refine wpAnyH_take (i := 5) (oi := ⟨some 32, .load 23 (.tmp 31), 23, "law.go:128", #[⟨4, .data⟩, ⟨2, .guard⟩], some (2, Bool.false)⟩) (v := ?_) rfl (by kernel_rfl) (by kernel_rfl) (by kernel_rfl) (fun _ _ _ h => h) (Or.inl ⟨by first | kernel_rfl | rfl, ?_⟩) (by assumption) ?_
      rotate_left
      · (intro w hSw; (try dsimp only at hSw); obtain ⟨_, d1⟩ := hSw; go_simp; try with_reducible rfl)
      try simp only [Act.put, List.setIfInBounds_toArray, List.set_cons_zero, List.set_cons_succ]
      refine wpAnyH_take (i := 6) (oi := ⟨some 33, .call { callee := Callee.builtin Builtin.len, args := #[.tmp 32], argTypes := #[23] }, 3, "law.go:128", #[⟨5, .data⟩, ⟨2, .guard⟩], some (2, Bool.false)⟩) (v := ?_) rfl (by kernel_rfl) (by kernel_rfl) (by kernel_rfl) (fun _ _ _ h => h) (Or.inl ⟨by first | kernel_rfl | rfl, ?_⟩) (by assumption) ?_
      rotate_left
      · (intro w hSw; (try dsimp only at hSw); obtain ⟨_, d1⟩ := hSw; go_simp; try with_reducible rfl)
      try simp only [Act.put, List.setIfInBounds_toArray, List.set_cons_zero, List.set_cons_succ]
      refine wpAnyH_take (i := 7) (oi := ⟨some 34, .move (.tmp 3), 23, "law.go:128", #[⟨2, .guard⟩], some (2, Bool.false)⟩) (v := ?_) rfl (by kernel_rfl) (by kernel_rfl) (by kernel_rfl) (fun _ _ _ h => h) (Or.inl ⟨by first | kernel_rfl | rfl, ?_⟩) (by assumption) ?_
      rotate_left
      · (intro w hSw; (try dsimp only at hSw); obtain ⟨_, d1⟩ := hSw; go_simp; try with_reducible rfl)
      try simp only [Act.put, List.setIfInBounds_toArray, List.set_cons_zero, List.set_cons_succ]
      refine wpAnyH_ready (rs := [8]) (by kernel_rfl) (by simp) ?_
      refine AllReadyH.cons (o := ⟨some 35, .call { callee := Callee.value (.func 17), args := #[.tmp 34], argTypes := #[23] }, 22, "law.go:128", #[⟨7, .data⟩, ⟨2, .chain⟩, ⟨2, .guard⟩], some (2, Bool.false)⟩) rfl (fun K hK => ?_) AllReadyH.nil
      go_simp
      go_at_call 17; refine (HTM.out _ (by repeat (first | exact Bel.rf | (with_reducible refine Bel.drwN ?_ _) | (with_reducible refine Bel.drw ?_) | (with_reducible refine Bel.al ?_ _)))).mono ?_; rintro e wz ⟨a9, c9, rfl, hbz⟩; have HBX : Hid (Bel W5 wz) := Bel.tr (by repeat (first | exact Bel.rf | (with_reducible refine Bel.drwN ?_ _) | (with_reducible refine Bel.drw ?_) | (with_reducible refine Bel.al ?_ _))) hbz; clear hbz
      try go_wp2_with fail
      refine hK.out _ _ ?_ (fun hH1 => ?_)
      · (try dsimp only); (refine HKS.out _ ?_; repeat (first | exact HBX.out | exact Bel.rf | (with_reducible refine Bel.drwN ?_ _) | (with_reducible refine Bel.drw ?_)))
      clear hK K hH0
      try simp only [Act.put, List.setIfInBounds_toArray, List.set_cons_zero, List.set_cons_succ]
      refine wpAnyH_take (i := 9) (oi := ⟨some 36, .call { callee := Callee.builtin Builtin.len, args := #[.tmp 35], argTypes := #[22] }, 3, "law.go:128", #[⟨8, .data⟩, ⟨2, .guard⟩], some (2, Bool.false)⟩) (v := ?_) rfl (by kernel_rfl) (by kernel_rfl) (by kernel_rfl) (fun _ _ _ h => h) (Or.inl ⟨by first | kernel_rfl | rfl, ?_⟩) (by assumption) ?_
      rotate_left
      · (intro w hSw; (try dsimp only at hSw); obtain ⟨_, d1⟩ := hSw; go_simp; try with_reducible rfl)
      try simp only [Act.put, List.setIfInBounds_toArray, List.set_cons_zero, List.set_cons_succ]
      refine wpAnyH_take (i := 10) (oi := ⟨some 37, .binOp BinOp.neq 3 (.tmp 33) (.tmp 36) 3, 4, "law.go:128", #[⟨6, .data⟩, ⟨9, .data⟩, ⟨2, .guard⟩], some (2, Bool.false)⟩) (v := ?_) rfl (by kernel_rfl) (by kernel_rfl) (by kernel_rfl) (fun _ _ _ h => h) (Or.inl ⟨by first | kernel_rfl | rfl, ?_⟩) (by assumption) ?_
      rotate_left
      · (intro w hSw; (try dsimp only at hSw); obtain ⟨_, d1⟩ := hSw; go_simp; try with_reducible rfl)
      try simp only [Act.put, List.setIfInBounds_toArray, List.set_cons_zero, List.set_cons_succ]
      refine wpAnyH_take (i := 11) (oi := ⟨some 38, .pick (.tmp 29) (.const (.bool Bool.true)) (.tmp 37), 4, "law.go:128", #[⟨2, .data⟩, ⟨10, .data⟩], none⟩) (v := ?_) rfl (by kernel_rfl) (by kernel_rfl) (by kernel_rfl) (fun _ _ _ h => h) (Or.inl ⟨by first | kernel_rfl | rfl, ?_⟩) (by assumption) ?_
      rotate_left
      · (intro w hSw; (try dsimp only at hSw); obtain ⟨_, d1⟩ := hSw; go_simp; try with_reducible rfl)
      try simp only [Act.put, List.setIfInBounds_toArray, List.set_cons_zero, List.set_cons_succ]
      refine wpAnyH_done (by kernel_rfl) ?_ _
      refine NoPanic.normal ?_
      go_wp2
      go_roundw
      case rel => exact ⟨p + 1, _, cv.setIfInBounds p (.slice A4 nb c4), rfl, by omega, by omega, by go_num, HN5.out.1.bel (by repeat (first | exact HBX.out | (with_reducible refine Bel.drwN ?_ _) | (with_reducible refine Bel.drw ?_) | (with_reducible refine Bel.al ?_ _))), by rw [Array.size_setIfInBounds]; exact HCV.out, (by repeat (first | exact HN5.out.2.1.tr HBX.out | (with_reducible refine Bel.drwN ?_ _) | (with_reducible refine Bel.drw ?_) | (with_reducible refine Bel.al ?_ _))), fun q h1 h2 => (HN5.out.2.2 q h1 h2).bel (by repeat (first | exact HBX.out | (with_reducible refine Bel.drwN ?_ _) | (with_reducible refine Bel.drw ?_) | (with_reducible refine Bel.al ?_ _)))⟩
      case measure => simp [intOf]; omega
    · have HP6 : Hid (p = 6) := (by omega : p = 6)
      have pn5 : ¬ (p : Int) ≤ 5 := by omega
      have pd5 : decide ((p : Int) ≤ 5) = false := decide_eq_false pn5
      have HALL : Hid (∀ q, 1 ≤ q → q ≤ 5 → ∃ A c, wr.cell? (⟨v2.heap.size, q, none⟩ : Addr) = some (.slice A nb c) ∧ Zr wr A nb (cln q l)) := fun q h1 h2 => by
        obtain ⟨A, c, e1, e2, _⟩ := HEN.out q h1 (by have := HP6.out; omega)
        exact ⟨A, c, (HBK.out.cell q).trans e1, e2⟩
      obtain ⟨A3, c3, k3, z3⟩ := HALL.out 3 (by omega) (by omega)
      obtain ⟨A4, c4, k4, z4⟩ := HALL.out 4 (by omega) (by omega)
      have HZ3 := Lib.hid z3
      have HZ4 := Lib.hid z4
      have HK3 := Lib.hid k3
      have HK4 := Lib.hid k4
      clear z3 z4 k4 hge
      go_wp2
      clear k3
      go_loopw [42] (fun s42 wq => ∃ (i : Nat) (V : World), V = wq ∧ i ≤ nb ∧ s42 = .int .i64 (i : Int) ∧ Bel wr wq) (fun s42 _ => nb - (intOf s42).toNat)
      case atStart => exact ⟨0, _, rfl, by omega, rfl, (by repeat (first | exact Bel.rf | (with_reducible refine Bel.drwN ?_ _) | (with_reducible refine Bel.drw ?_) | (with_reducible refine Bel.al ?_ _)))⟩
      case round =>
        obtain ⟨i, wq, hwq, hin, rfl, hbq⟩ := hrel
        subst hwq
        have HQ := Lib.hid hbq
        rcases Nat.lt_or_ge i nb with hlt | hge
        · have ii : (i : Int) < (nb : Int) := by omega
          have i0 : (0 : Int) ≤ (i : Int) := by omega
          obtain ⟨b3, e, hb3, hc3⟩ := (HZ3.out.bel hbq).2 (by omega)
          subst e
          obtain ⟨b4, e, hb4, hc4⟩ := (HZ4.out.bel hbq).2 (by omega)
          subst e
          obtain ⟨d1, d2⟩ := hc3 i hlt
          obtain ⟨d3, d4⟩ := hc4 i hlt
          have k3 := hbq.kp HK3.out
          have k4 := hbq.kp HK4.out
          have hiu : i < (uts l).length := by rw [HNB.out]; exact hlt
          have HTE : Hid (∀ q : Int, tm (cln q l) i = (uts l).getD i 0) := fun q => cln_tm hiu
          have HLH : Hid (∀ q : Int, vl (cln 3 l) i ≤ vl (cln q l) i ∧ vl (cln q l) i ≤ vl (cln 4 l) i) := fun q => cln_lohi HV.out q hiu
          rw [show ((3 : Nat) : Int) = 3 from rfl, HTE.out] at d1
          rw [show ((4 : Nat) : Int) = 4 from rfl, HTE.out] at d3
          rw [show ((3 : Nat) : Int) = 3 from rfl] at d2
          rw [show ((4 : Nat) : Int) = 4 from rfl] at d4
          obtain ⟨t, ht⟩ : ∃ t, (uts l).getD i 0 = t := ⟨_, rfl⟩
          obtain ⟨v3, hv3⟩ : ∃ t, vl (cln 3 l) i = t := ⟨_, rfl⟩
          obtain ⟨v4, hv4⟩ : ∃ t, vl (cln 4 l) i = t := ⟨_, rfl⟩
          rw [ht] at d1 d3 HTE
          rw [hv3] at d2 HLH
          rw [hv4] at d4 HLH
          have HKQ : Hid (∀ W, Bel wq W → W.cell? (⟨v2.heap.size, 3, none⟩ : Addr) = some (.slice (some ⟨b3, 0, none⟩) nb c3) ∧ W.cell? (⟨v2.heap.size, 4, none⟩ : Addr) = some (.slice (some ⟨b4, 0, none⟩) nb c4) ∧ W.cell? (⟨b3, i * 2, none⟩ : Addr) = some (.int .i64 t) ∧ W.cell? (⟨b3, i * 2 + 1, none⟩ : Addr) = some (.int .i64 v3) ∧ W.cell? (⟨b4, i * 2, none⟩ : Addr) = some (.int .i64 t) ∧ W.cell? (⟨b4, i * 2 + 1, none⟩ : Addr) = some (.int .i64 v4)) := fun W hW => ⟨hW.kp k3, hW.kp k4, hW.kp d1, hW.kp d2, hW.kp d3, hW.kp d4⟩
          clear hc3 hc4 k3 k4 d1 d2 d3 d4 ht hv3 hv4 hbq hiu
          go_upto_region 13 with fail
          go_cut [8, 9] (fun s8 s9 wx => ∃ (h8 h9 : Nat) (W : World), W = wx ∧ s8 = .pointer (some ⟨h8, 0, none⟩) ∧ s9 = .pointer (some ⟨h9, 0, none⟩) ∧ Bk wx h8 28 #[.int .i64 t, .int .i64 v3] ∧ Bk wx h9 28 #[.int .i64 t, .int .i64 v4] ∧ Bel wq wx)
          case first =>
            go_region_held3 (fun W => W.cell? (⟨v2.heap.size, 3, none⟩ : Addr) = some (.slice (some ⟨b3, 0, none⟩) nb c3) ∧ W.cell? (⟨v2.heap.size, 4, none⟩ : Addr) = some (.slice (some ⟨b4, 0, none⟩) nb c4) ∧ W.cell? (⟨b3, i * 2, none⟩ : Addr) = some (.int .i64 t) ∧ W.cell? (⟨b3, i * 2 + 1, none⟩ : Addr) = some (.int .i64 v3) ∧ W.cell? (⟨b4, i * 2, none⟩ : Addr) = some (.int .i64 t) ∧ W.cell? (⟨b4, i * 2 + 1, none⟩ : Addr) = some (.int .i64 v4))
              (exact HKQ.out _ (by repeat (first | with_reducible exact Bel.rf | (with_reducible refine Bel.drwN ?_ _) | (with_reducible refine Bel.drw ?_) | (with_reducible refine Bel.al ?_ _) | ((with_reducible refine Bel.st2 ?_ ?_ _); (first | exact Nat.le_refl _ | (simp; done) | (simp; omega)))))) (fail)
            all_goals
              go_wp2_with fail
              go_meet
              exact ⟨_, _, _, rfl, rfl, rfl, (by repeat (first | (refine Bk.nq _ _ _ ?_; simp; done) | (with_reducible refine Bk.drwN ?_ _) | (with_reducible refine Bk.drw ?_) | (with_reducible refine Bk.al ?_ _))), (by repeat (first | (refine Bk.nq _ _ _ ?_; simp; done) | (with_reducible refine Bk.drwN ?_ _) | (with_reducible refine Bk.drw ?_) | (with_reducible refine Bk.al ?_ _))), (by repeat (first | exact Bel.rf | (with_reducible refine Bel.drwN ?_ _) | (with_reducible refine Bel.drw ?_) | (with_reducible refine Bel.al ?_ _)))⟩
          case rest =>
            obtain ⟨h8, h9, wx, hwx, rfl, rfl, b8, b9, hbx⟩ := hcut
            subst hwx
            have HF : Hid (∀ W, Bel wx W → W.cell? (⟨h8, 0, none⟩ : Addr) = some (.int .i64 t) ∧ W.cell? (⟨h8, 1, none⟩ : Addr) = some (.int .i64 v3) ∧ W.cell? (⟨h9, 0, none⟩ : Addr) = some (.int .i64 t) ∧ W.cell? (⟨h9, 1, none⟩ : Addr) = some (.int .i64 v4)) := fun W hW => ⟨hW.kp (b8.cell 0), hW.kp (b8.cell 1), hW.kp (b9.cell 0), hW.kp (b9.cell 1)⟩
            have HPB : Hid (Bk (wx.alloc (.cells #[.int .i64 1, .int .i64 2, .int .i64 5] 3)) wx.heap.size 3 #[.int .i64 1, .int .i64 2, .int .i64 5]) := Bk.nw _ _ _
            have HPX : Hid (Bel wx (wx.alloc (.cells #[.int .i64 1, .int .i64 2, .int .i64 5] 3))) := Bel.rf.al _
            have HXQ := Lib.hid (HQ.out.tr hbx)
            clear b8 b9 hbx
            go_wp2
            obtain ⟨wy0, hwy0⟩ : ∃ W, wx.alloc (.cells #[.int .i64 1, .int .i64 2, .int .i64 5] 3) = W := ⟨_, rfl⟩
            rw [hwy0] at HPB HPX ⊢
            clear hwy0
            go_loopw [57] (fun s57 wy => ∃ (j : Nat) (V : World), V = wy ∧ j ≤ 3 ∧ s57 = .int .i64 (j : Int) ∧ Bel wy0 wy) (fun s57 _ => 3 - (intOf s57).toNat)
            case atStart => exact ⟨0, _, rfl, by omega, rfl, (by repeat (first | exact Bel.rf | (with_reducible refine Bel.drwN ?_ _) | (with_reducible refine Bel.drw ?_) | (with_reducible refine Bel.al ?_ _)))⟩
            case round =>
              obtain ⟨j, wy, hwy, hj3, rfl, hby⟩ := hrel
              subst hwy
              have HY := Lib.hid hby
              rcases Nat.lt_or_ge j 3 with hj | hj
              · obtain ⟨P, hP, hPc⟩ : ∃ P : Nat, 1 ≤ P ∧ P ≤ 5 ∧ wy.cell? (⟨wx.heap.size, j, none⟩ : Addr) = some (.int .i64 (P : Int)) := by
                  have hc := (HPB.out.bel hby).cell j
                  rcases (by omega : j = 0 ∨ j = 1 ∨ j = 2) with rfl | rfl | rfl
                  · exact ⟨1, by omega, by omega, hc⟩
                  · exact ⟨2, by omega, by omega, hc⟩
                  · exact ⟨5, by omega, by omega, hc⟩
                obtain ⟨hP5, cP⟩ := hPc
                have hYX : Bel wr wy := HXQ.out.tr (HPX.out.tr hby)
                obtain ⟨AP, cc, kP, zP⟩ := HALL.out P hP hP5
                obtain ⟨bP, e, _, hcP⟩ := (zP.bel hYX).2 (by omega)
                subst e
                obtain ⟨y1, y2⟩ := hcP i hlt
                have kPy := hYX.kp kP
                have hlh := HLH.out (P : Int)
                rw [HTE.out] at y1
                obtain ⟨vP, hvP⟩ : ∃ x, vl (cln (P : Int) l) i = x := ⟨_, rfl⟩
                rw [hvP] at y2 hlh
                obtain ⟨f1, f2, f3, f4⟩ := HF.out wy (HPX.out.tr hby)
                have HKY : Hid (∀ W, Bel wy W → Bel wy W ∧ W.cell? (⟨v2.heap.size, P, none⟩ : Addr) = some (.slice (some ⟨bP, 0, none⟩) nb cc) ∧ W.cell? (⟨bP, i * 2, none⟩ : Addr) = some (.int .i64 t) ∧ W.cell? (⟨bP, i * 2 + 1, none⟩ : Addr) = some (.int .i64 vP) ∧ W.cell? (⟨h8, 0, none⟩ : Addr) = some (.int .i64 t) ∧ W.cell? (⟨h8, 1, none⟩ : Addr) = some (.int .i64 v3) ∧ W.cell? (⟨h9, 0, none⟩ : Addr) = some (.int .i64 t) ∧ W.cell? (⟨h9, 1, none⟩ : Addr) = some (.int .i64 v4)) := fun W hW => ⟨hW, hW.kp kPy, hW.kp y1, hW.kp y2, hW.kp f1, hW.kp f2, hW.kp f3, hW.kp f4⟩
                have p6 : (P : Int) < 6 := by omega
                have p0 : (0 : Int) ≤ (P : Int) := by omega
                have nt := ne_self t
                have l1 : decide (vP < v3) = false := decide_eq_false (by omega)
                have l2 : decide (v4 < vP) = false := decide_eq_false (by omega)
                have l3 : ¬ vP < v3 := by omega
                have l4 : ¬ v4 < vP := by omega
                have ji : (j : Int) < 3 := by omega
                have j0 : (0 : Int) ≤ (j : Int) := by omega
                have HJ := Lib.hid (And.intro hP hP5)
                clear hby hYX kP zP hcP y1 y2 kPy hlh hvP f1 f2 f3 f4 hP hP5
                go_wp2_with fail
                clear cP
                refine wp_region_noPanic ?_
                refine wp_region_held_drew (S := fun W => Bel wy W ∧ W.cell? (⟨v2.heap.size, P, none⟩ : Addr) = some (.slice (some ⟨bP, 0, none⟩) nb cc) ∧ W.cell? (⟨bP, i * 2, none⟩ : Addr) = some (.int .i64 t) ∧ W.cell? (⟨bP, i * 2 + 1, none⟩ : Addr) = some (.int .i64 vP) ∧ W.cell? (⟨h8, 0, none⟩ : Addr) = some (.int .i64 t) ∧ W.cell? (⟨h8, 1, none⟩ : Addr) = some (.int .i64 v3) ∧ W.cell? (⟨h9, 0, none⟩ : Addr) = some (.int .i64 t) ∧ W.cell? (⟨h9, 1, none⟩ : Addr) = some (.int .i64 v4)) (by kernel_rfl) ?_ (fun hH0 => ?_)
                · (try dsimp only); exact HKY.out _ (by repeat (first | exact Bel.rf | (with_reducible refine Bel.drwN ?_ _) | (with_reducible refine Bel.drw ?_) | (with_reducible refine Bel.al ?_ _)))
                refine wpAnyH_take (i := 0) (oi := ⟨some 61, .move (.tmp 11), 3, "law.go:135", #[], none⟩) (v := ?_) rfl (by kernel_rfl) (by kernel_rfl) (by kernel_rfl) (fun _ _ _ h => h) (Or.inl ⟨by first | kernel_rfl | rfl, ?_⟩) (by assumption) ?_
                rotate_left
                · (intro w hSw; (try dsimp only at hSw); obtain ⟨_, d1, d2, d3, d4, d5, d6, d7⟩ := hSw; go_simp; try with_reducible rfl)
                try simp only [Act.put, List.setIfInBounds_toArray, List.set_cons_zero, List.set_cons_succ]
                refine wpAnyH_take (i := 1) (oi := ⟨some 62, .indexAddr 41 (.tmp 4) (.tmp 61), 0, "law.go:135", #[⟨0, .data⟩], none⟩) (v := ?_) rfl (by kernel_rfl) (by kernel_rfl) (by kernel_rfl) (fun _ _ _ h => h) (Or.inl ⟨by first | kernel_rfl | rfl, ?_⟩) (by assumption) ?_
                rotate_left
                · (intro w hSw; (try dsimp only at hSw); obtain ⟨_, d1, d2, d3, d4, d5, d6, d7⟩ := hSw; go_simp; try with_reducible rfl)
                try simp only [Act.put, List.setIfInBounds_toArray, List.set_cons_zero, List.set_cons_succ]
                refine wpAnyH_take (i := 2) (oi := ⟨some 63, .load 23 (.tmp 62), 23, "law.go:135", #[⟨1, .data⟩], none⟩) (v := ?_) rfl (by kernel_rfl) (by kernel_rfl) (by kernel_rfl) (fun _ _ _ h => h) (Or.inl ⟨by first | kernel_rfl | rfl, ?_⟩) (by assumption) ?_
                rotate_left
                · (intro w hSw; (try dsimp only at hSw); obtain ⟨_, d1, d2, d3, d4, d5, d6, d7⟩ := hSw; go_simp; try with_reducible rfl)
                try simp only [Act.put, List.setIfInBounds_toArray, List.set_cons_zero, List.set_cons_succ]
                refine wpAnyH_take (i := 3) (oi := ⟨some 64, .move (.tmp 7), 3, "law.go:135", #[], none⟩) (v := ?_) rfl (by kernel_rfl) (by kernel_rfl) (by kernel_rfl) (fun _ _ _ h => h) (Or.inl ⟨by first | kernel_rfl | rfl, ?_⟩) (by assumption) ?_
                rotate_left
                · (intro w hSw; (try dsimp only at hSw); obtain ⟨_, d1, d2, d3, d4, d5, d6, d7⟩ := hSw; go_simp; try with_reducible rfl)
                try simp only [Act.put, List.setIfInBounds_toArray, List.set_cons_zero, List.set_cons_succ]
                refine wpAnyH_take (i := 4) (oi := ⟨some 65, .indexAddr 23 (.tmp 63) (.tmp 64), 0, "law.go:135", #[⟨2, .data⟩, ⟨3, .data⟩], none⟩) (v := ?_) rfl (by kernel_rfl) (by kernel_rfl) (by kernel_rfl) (fun _ _ _ h => h) (Or.inl ⟨by first | kernel_rfl | rfl, ?_⟩) (by assumption) ?_
                rotate_left
                · (intro w hSw; (try dsimp only at hSw); obtain ⟨_, d1, d2, d3, d4, d5, d6, d7⟩ := hSw; go_simp; try with_reducible rfl)
                try simp only [Act.put, List.setIfInBounds_toArray, List.set_cons_zero, List.set_cons_succ]
                refine wpAnyH_take (i := 5) (oi := ⟨some 66, .fieldAddr 28 (.tmp 65) 0, 0, "law.go:135", #[⟨4, .data⟩], none⟩) (v := ?_) rfl (by kernel_rfl) (by kernel_rfl) (by kernel_rfl) (fun _ _ _ h => h) (Or.inl ⟨by first | kernel_rfl | rfl, ?_⟩) (by assumption) ?_
                rotate_left
                · (intro w hSw; (try dsimp only at hSw); obtain ⟨_, d1, d2, d3, d4, d5, d6, d7⟩ := hSw; go_simp; try with_reducible rfl)
                try simp only [Act.put, List.setIfInBounds_toArray, List.set_cons_zero, List.set_cons_succ]
                refine wpAnyH_take (i := 6) (oi := ⟨some 67, .load 3 (.tmp 66), 3, "law.go:135", #[⟨5, .data⟩], none⟩) (v := ?_) rfl (by kernel_rfl) (by kernel_rfl) (by kernel_rfl) (fun _ _ _ h => h) (Or.inl ⟨by first | kernel_rfl | rfl, ?_⟩) (by assumption) ?_
                rotate_left
                · (intro w hSw; (try dsimp only at hSw); obtain ⟨_, d1, d2, d3, d4, d5, d6, d7⟩ := hSw; go_simp; try with_reducible rfl)
                try simp only [Act.put, List.setIfInBounds_toArray, List.set_cons_zero, List.set_cons_succ]
                refine wpAnyH_take (i := 7) (oi := ⟨some 68, .fieldAddr 28 (.tmp 8) 0, 0, "law.go:135", #[], none⟩) (v := ?_) rfl (by kernel_rfl) (by kernel_rfl) (by kernel_rfl) (fun _ _ _ h => h) (Or.inl ⟨by first | kernel_rfl | rfl, ?_⟩) (by assumption) ?_
                rotate_left
                · (intro w hSw; (try dsimp only at hSw); obtain ⟨_, d1, d2, d3, d4, d5, d6, d7⟩ := hSw; go_simp; try with_reducible rfl)
                try simp only [Act.put, List.setIfInBounds_toArray, List.set_cons_zero, List.set_cons_succ]
                refine wpAnyH_take (i := 8) (oi := ⟨some 69, .load 3 (.tmp 68), 3, "law.go:135", #[⟨7, .data⟩], none⟩) (v := ?_) rfl (by kernel_rfl) (by kernel_rfl) (by kernel_rfl) (fun _ _ _ h => h) (Or.inl ⟨by first | kernel_rfl | rfl, ?_⟩) (by assumption) ?_
                rotate_left
                · (intro w hSw; (try dsimp only at hSw); obtain ⟨_, d1, d2, d3, d4, d5, d6, d7⟩ := hSw; go_simp; try with_reducible rfl)
                try simp only [Act.put, List.setIfInBounds_toArray, List.set_cons_zero, List.set_cons_succ]
                refine wpAnyH_take (i := 9) (oi := ⟨some 70, .binOp BinOp.neq 3 (.tmp 67) (.tmp 69) 3, 4, "law.go:135", #[⟨6, .data⟩, ⟨8, .data⟩], none⟩) (v := ?_) rfl (by kernel_rfl) (by kernel_rfl) (by kernel_rfl) (fun _ _ _ h => h) (Or.inl ⟨by first | kernel_rfl | rfl, ?_⟩) (by assumption) ?_
                rotate_left
                · (intro w hSw; (try dsimp only at hSw); obtain ⟨_, d1, d2, d3, d4, d5, d6, d7⟩ := hSw; go_simp; try with_reducible rfl)
                try simp only [Act.put, List.setIfInBounds_toArray, List.set_cons_zero, List.set_cons_succ]
                refine wpAnyH_take (i := 10) (oi := ⟨some 71, .move (.tmp 70), 4, "law.go:135", #[⟨9, .data⟩], none⟩) (v := ?_) rfl (by kernel_rfl) (by kernel_rfl) (by kernel_rfl) (fun _ _ _ h => h) (Or.inl ⟨by first | kernel_rfl | rfl, ?_⟩) (by assumption) ?_
                rotate_left
                · (intro w hSw; (try dsimp only at hSw); obtain ⟨_, d1, d2, d3, d4, d5, d6, d7⟩ := hSw; go_simp; try with_reducible rfl)
                try simp only [Act.put, List.setIfInBounds_toArray, List.set_cons_zero, List.set_cons_succ]
                refine wpAnyH_take (i := 11) (oi := ⟨some 72, .fieldAddr 28 (.tmp 9) 0, 0, "law.go:135", #[⟨10, .guard⟩], some (10, Bool.false)⟩) (v := ?_) rfl (by kernel_rfl) (by kernel_rfl) (by kernel_rfl) (fun _ _ _ h => h) (Or.inl ⟨by first | kernel_rfl | rfl, ?_⟩) (by assumption) ?_
                rotate_left
                · (intro w hSw; (try dsimp only at hSw); obtain ⟨_, d1, d2, d3, d4, d5, d6, d7⟩ := hSw; go_simp; try with_reducible rfl)
                try simp only [Act.put, List.setIfInBounds_toArray, List.set_cons_zero, List.set_cons_succ]
                refine wpAnyH_take (i := 12) (oi := ⟨some 73, .load 3 (.tmp 72), 3, "law.go:135", #[⟨11, .data⟩, ⟨10, .guard⟩], some (10, Bool.false)⟩) (v := ?_) rfl (by kernel_rfl) (by kernel_rfl) (by kernel_rfl) (fun _ _ _ h => h) (Or.inl ⟨by first | kernel_rfl | rfl, ?_⟩) (by assumption) ?_
                rotate_left
                · (intro w hSw; (try dsimp only at hSw); obtain ⟨_, d1, d2, d3, d4, d5, d6, d7⟩ := hSw; go_simp; try with_reducible rfl)
                try simp only [Act.put, List.setIfInBounds_toArray, List.set_cons_zero, List.set_cons_succ]
                refine wpAnyH_take (i := 13) (oi := ⟨some 74, .fieldAddr 28 (.tmp 8) 0, 0, "law.go:135", #[⟨10, .guard⟩], some (10, Bool.false)⟩) (v := ?_) rfl (by kernel_rfl) (by kernel_rfl) (by kernel_rfl) (fun _ _ _ h => h) (Or.inl ⟨by first | kernel_rfl | rfl, ?_⟩) (by assumption) ?_
                rotate_left
                · (intro w hSw; (try dsimp only at hSw); obtain ⟨_, d1, d2, d3, d4, d5, d6, d7⟩ := hSw; go_simp; try with_reducible rfl)
                try simp only [Act.put, List.setIfInBounds_toArray, List.set_cons_zero, List.set_cons_succ]
                refine wpAnyH_take (i := 14) (oi := ⟨some 75, .load 3 (.tmp 74), 3, "law.go:135", #[⟨13, .data⟩, ⟨10, .guard⟩], some (10, Bool.false)⟩) (v := ?_) rfl (by kernel_rfl) (by kernel_rfl) (by kernel_rfl) (fun _ _ _ h => h) (Or.inl ⟨by first | kernel_rfl | rfl, ?_⟩) (by assumption) ?_
                rotate_left
                · (intro w hSw; (try dsimp only at hSw); obtain ⟨_, d1, d2, d3, d4, d5, d6, d7⟩ := hSw; go_simp; try with_reducible rfl)
                try simp only [Act.put, List.setIfInBounds_toArray, List.set_cons_zero, List.set_cons_succ]
                refine wpAnyH_take (i := 15) (oi := ⟨some 76, .binOp BinOp.neq 3 (.tmp 73) (.tmp 75) 3, 4, "law.go:135", #[⟨12, .data⟩, ⟨14, .data⟩, ⟨10, .guard⟩], some (10, Bool.false)⟩) (v := ?_) rfl (by kernel_rfl) (by kernel_rfl) (by kernel_rfl) (fun _ _ _ h => h) (Or.inl ⟨by first | kernel_rfl | rfl, ?_⟩) (by assumption) ?_
                rotate_left
                · (intro w hSw; (try dsimp only at hSw); obtain ⟨_, d1, d2, d3, d4, d5, d6, d7⟩ := hSw; go_simp; try with_reducible rfl)
                try simp only [Act.put, List.setIfInBounds_toArray, List.set_cons_zero, List.set_cons_succ]
                refine wpAnyH_take (i := 16) (oi := ⟨some 77, .pick (.tmp 71) (.const (.bool Bool.true)) (.tmp 76), 4, "law.go:135", #[⟨10, .data⟩, ⟨15, .data⟩], none⟩) (v := ?_) rfl (by kernel_rfl) (by kernel_rfl) (by kernel_rfl) (fun _ _ _ h => h) (Or.inl ⟨by first | kernel_rfl | rfl, ?_⟩) (by assumption) ?_
                rotate_left
                · (intro w hSw; (try dsimp only at hSw); obtain ⟨_, d1, d2, d3, d4, d5, d6, d7⟩ := hSw; go_simp; try with_reducible rfl)
                try simp only [Act.put, List.setIfInBounds_toArray, List.set_cons_zero, List.set_cons_succ]
                refine wpAnyH_take (i := 17) (oi := ⟨some 78, .move (.tmp 77), 4, "law.go:135", #[⟨16, .data⟩, ⟨10, .chain⟩], none⟩) (v := ?_) rfl (by kernel_rfl) (by kernel_rfl) (by kernel_rfl) (fun _ _ _ h => h) (Or.inl ⟨by first | kernel_rfl | rfl, ?_⟩) (by assumption) ?_
                rotate_left
                · (intro w hSw; (try dsimp only at hSw); obtain ⟨_, d1, d2, d3, d4, d5, d6, d7⟩ := hSw; go_simp; try with_reducible rfl)
                try simp only [Act.put, List.setIfInBounds_toArray, List.set_cons_zero, List.set_cons_succ]
                refine wpAnyH_take (i := 18) (oi := ⟨some 79, .move (.tmp 11), 3, "law.go:135", #[⟨17, .guard⟩], some (17, Bool.false)⟩) (v := ?_) rfl (by kernel_rfl) (by kernel_rfl) (by kernel_rfl) (fun _ _ _ h => h) (Or.inl ⟨by first | kernel_rfl | rfl, ?_⟩) (by assumption) ?_
                rotate_left
                · (intro w hSw; (try dsimp only at hSw); obtain ⟨_, d1, d2, d3, d4, d5, d6, d7⟩ := hSw; go_simp; try with_reducible rfl)
                try simp only [Act.put, List.setIfInBounds_toArray, List.set_cons_zero, List.set_cons_succ]
                refine wpAnyH_take (i := 19) (oi := ⟨some 80, .indexAddr 41 (.tmp 4) (.tmp 79), 0, "law.go:135", #[⟨18, .data⟩, ⟨17, .guard⟩], some (17, Bool.false)⟩) (v := ?_) rfl (by kernel_rfl) (by kernel_rfl) (by kernel_rfl) (fun _ _ _ h => h) (Or.inl ⟨by first | kernel_rfl | rfl, ?_⟩) (by assumption) ?_
                rotate_left
                · (intro w hSw; (try dsimp only at hSw); obtain ⟨_, d1, d2, d3, d4, d5, d6, d7⟩ := hSw; go_simp; try with_reducible rfl)
                try simp only [Act.put, List.setIfInBounds_toArray, List.set_cons_zero, List.set_cons_succ]
                refine wpAnyH_take (i := 20) (oi := ⟨some 81, .load 23 (.tmp 80), 23, "law.go:135", #[⟨19, .data⟩, ⟨17, .guard⟩], some (17, Bool.false)⟩) (v := ?_) rfl (by kernel_rfl) (by kernel_rfl) (by kernel_rfl) (fun _ _ _ h => h) (Or.inl ⟨by first | kernel_rfl | rfl, ?_⟩) (by assumption) ?_
                rotate_left
                · (intro w hSw; (try dsimp only at hSw); obtain ⟨_, d1, d2, d3, d4, d5, d6, d7⟩ := hSw; go_simp; try with_reducible rfl)
                try simp only [Act.put, List.setIfInBounds_toArray, List.set_cons_zero, List.set_cons_succ]
                refine wpAnyH_take (i := 21) (oi := ⟨some 82, .move (.tmp 7), 3, "law.go:135", #[⟨17, .guard⟩], some (17, Bool.false)⟩) (v := ?_) rfl (by kernel_rfl) (by kernel_rfl) (by kernel_rfl) (fun _ _ _ h => h) (Or.inl ⟨by first | kernel_rfl | rfl, ?_⟩) (by assumption) ?_
                rotate_left
                · (intro w hSw; (try dsimp only at hSw); obtain ⟨_, d1, d2, d3, d4, d5, d6, d7⟩ := hSw; go_simp; try with_reducible rfl)
                try simp only [Act.put, List.setIfInBounds_toArray, List.set_cons_zero, List.set_cons_succ]
                refine wpAnyH_take (i := 22) (oi := ⟨some 83, .indexAddr 23 (.tmp 81) (.tmp 82), 0, "law.go:135", #[⟨20, .data⟩, ⟨21, .data⟩, ⟨17, .guard⟩], some (17, Bool.false)⟩) (v := ?_) rfl (by kernel_rfl) (by kernel_rfl) (by kernel_rfl) (fun _ _ _ h => h) (Or.inl ⟨by first | kernel_rfl | rfl, ?_⟩) (by assumption) ?_
                rotate_left
                · (intro w hSw; (try dsimp only at hSw); obtain ⟨_, d1, d2, d3, d4, d5, d6, d7⟩ := hSw; go_simp; try with_reducible rfl)
                try simp only [Act.put, List.setIfInBounds_toArray, List.set_cons_zero, List.set_cons_succ]
                refine wpAnyH_take (i := 23) (oi := ⟨some 84, .fieldAddr 28 (.tmp 83) 1, 0, "law.go:135", #[⟨22, .data⟩, ⟨17, .guard⟩], some (17, Bool.false)⟩) (v := ?_) rfl (by kernel_rfl) (by kernel_rfl) (by kernel_rfl) (fun _ _ _ h => h) (Or.inl ⟨by first | kernel_rfl | rfl, ?_⟩) (by assumption) ?_
                rotate_left
                · (intro w hSw; (try dsimp only at hSw); obtain ⟨_, d1, d2, d3, d4, d5, d6, d7⟩ := hSw; go_simp; try with_reducible rfl)
                try simp only [Act.put, List.setIfInBounds_toArray, List.set_cons_zero, List.set_cons_succ]
                refine wpAnyH_take (i := 24) (oi := ⟨some 85, .load 3 (.tmp 84), 3, "law.go:135", #[⟨23, .data⟩, ⟨17, .guard⟩], some (17, Bool.false)⟩) (v := ?_) rfl (by kernel_rfl) (by kernel_rfl) (by kernel_rfl) (fun _ _ _ h => h) (Or.inl ⟨by first | kernel_rfl | rfl, ?_⟩) (by assumption) ?_
                rotate_left
                · (intro w hSw; (try dsimp only at hSw); obtain ⟨_, d1, d2, d3, d4, d5, d6, d7⟩ := hSw; go_simp; try with_reducible rfl)
                try simp only [Act.put, List.setIfInBounds_toArray, List.set_cons_zero, List.set_cons_succ]
                refine wpAnyH_take (i := 25) (oi := ⟨some 86, .fieldAddr 28 (.tmp 8) 1, 0, "law.go:135", #[⟨17, .guard⟩], some (17, Bool.false)⟩) (v := ?_) rfl (by kernel_rfl) (by kernel_rfl) (by kernel_rfl) (fun _ _ _ h => h) (Or.inl ⟨by first | kernel_rfl | rfl, ?_⟩) (by assumption) ?_
                rotate_left
                · (intro w hSw; (try dsimp only at hSw); obtain ⟨_, d1, d2, d3, d4, d5, d6, d7⟩ := hSw; go_simp; try with_reducible rfl)
                try simp only [Act.put, List.setIfInBounds_toArray, List.set_cons_zero, List.set_cons_succ]
                refine wpAnyH_take (i := 26) (oi := ⟨some 87, .load 3 (.tmp 86), 3, "law.go:135", #[⟨25, .data⟩, ⟨17, .guard⟩], some (17, Bool.false)⟩) (v := ?_) rfl (by kernel_rfl) (by kernel_rfl) (by kernel_rfl) (fun _ _ _ h => h) (Or.inl ⟨by first | kernel_rfl | rfl, ?_⟩) (by assumption) ?_
                rotate_left
                · (intro w hSw; (try dsimp only at hSw); obtain ⟨_, d1, d2, d3, d4, d5, d6, d7⟩ := hSw; go_simp; try with_reducible rfl)
                try simp only [Act.put, List.setIfInBounds_toArray, List.set_cons_zero, List.set_cons_succ]
                refine wpAnyH_take (i := 27) (oi := ⟨some 88, .binOp BinOp.lss 3 (.tmp 85) (.tmp 87) 3, 4, "law.go:135", #[⟨24, .data⟩, ⟨26, .data⟩, ⟨17, .guard⟩], some (17, Bool.false)⟩) (v := ?_) rfl (by kernel_rfl) (by kernel_rfl) (by kernel_rfl) (fun _ _ _ h => h) (Or.inl ⟨by first | kernel_rfl | rfl, ?_⟩) (by assumption) ?_
                rotate_left
                · (intro w hSw; (try dsimp only at hSw); obtain ⟨_, d1, d2, d3, d4, d5, d6, d7⟩ := hSw; go_simp; try with_reducible rfl)
                try simp only [Act.put, List.setIfInBounds_toArray, List.set_cons_zero, List.set_cons_succ]
                refine wpAnyH_take (i := 28) (oi := ⟨some 89, .pick (.tmp 78) (.const (.bool Bool.true)) (.tmp 88), 4, "law.go:135", #[⟨17, .data⟩, ⟨27, .data⟩], none⟩) (v := ?_) rfl (by kernel_rfl) (by kernel_rfl) (by kernel_rfl) (fun _ _ _ h => h) (Or.inl ⟨by first | kernel_rfl | rfl, ?_⟩) (by assumption) ?_
                rotate_left
                · (intro w hSw; (try dsimp only at hSw); obtain ⟨_, d1, d2, d3, d4, d5, d6, d7⟩ := hSw; go_simp; try with_reducible rfl)
                try simp only [Act.put, List.setIfInBounds_toArray, List.set_cons_zero, List.set_cons_succ]
                refine wpAnyH_take (i := 29) (oi := ⟨some 90, .move (.tmp 89), 4, "law.go:135", #[⟨28, .data⟩, ⟨17, .chain⟩], none⟩) (v := ?_) rfl (by kernel_rfl) (by kernel_rfl) (by kernel_rfl) (fun _ _ _ h => h) (Or.inl ⟨by first | kernel_rfl | rfl, ?_⟩) (by assumption) ?_
                rotate_left
                · (intro w hSw; (try dsimp only at hSw); obtain ⟨_, d1, d2, d3, d4, d5, d6, d7⟩ := hSw; go_simp; try with_reducible rfl)
                try simp only [Act.put, List.setIfInBounds_toArray, List.set_cons_zero, List.set_cons_succ]
                refine wpAnyH_take (i := 30) (oi := ⟨some 91, .move (.tmp 11), 3, "law.go:135", #[⟨29, .guard⟩], some (29, Bool.false)⟩) (v := ?_) rfl (by kernel_rfl) (by kernel_rfl) (by kernel_rfl) (fun _ _ _ h => h) (Or.inl ⟨by first | kernel_rfl | rfl, ?_⟩) (by assumption) ?_
                rotate_left
                · (intro w hSw; (try dsimp only at hSw); obtain ⟨_, d1, d2, d3, d4, d5, d6, d7⟩ := hSw; go_simp; try with_reducible rfl)
                try simp only [Act.put, List.setIfInBounds_toArray, List.set_cons_zero, List.set_cons_succ]
                refine wpAnyH_take (i := 31) (oi := ⟨some 92, .indexAddr 41 (.tmp 4) (.tmp 91), 0, "law.go:135", #[⟨30, .data⟩, ⟨29, .guard⟩], some (29, Bool.false)⟩) (v := ?_) rfl (by kernel_rfl) (by kernel_rfl) (by kernel_rfl) (fun _ _ _ h => h) (Or.inl ⟨by first | kernel_rfl | rfl, ?_⟩) (by assumption) ?_
                rotate_left
                · (intro w hSw; (try dsimp only at hSw); obtain ⟨_, d1, d2, d3, d4, d5, d6, d7⟩ := hSw; go_simp; try with_reducible rfl)
                try simp only [Act.put, List.setIfInBounds_toArray, List.set_cons_zero, List.set_cons_succ]
                refine wpAnyH_take (i := 32) (oi := ⟨some 93, .load 23 (.tmp 92), 23, "law.go:135", #[⟨31, .data⟩, ⟨29, .guard⟩], some (29, Bool.false)⟩) (v := ?_) rfl (by kernel_rfl) (by kernel_rfl) (by kernel_rfl) (fun _ _ _ h => h) (Or.inl ⟨by first | kernel_rfl | rfl, ?_⟩) (by assumption) ?_
                rotate_left
                · (intro w hSw; (try dsimp only at hSw); obtain ⟨_, d1, d2, d3, d4, d5, d6, d7⟩ := hSw; go_simp; try with_reducible rfl)
                try simp only [Act.put, List.setIfInBounds_toArray, List.set_cons_zero, List.set_cons_succ]
                refine wpAnyH_take (i := 33) (oi := ⟨some 94, .move (.tmp 7), 3, "law.go:135", #[⟨29, .guard⟩], some (29, Bool.false)⟩) (v := ?_) rfl (by kernel_rfl) (by kernel_rfl) (by kernel_rfl) (fun _ _ _ h => h) (Or.inl ⟨by first | kernel_rfl | rfl, ?_⟩) (by assumption) ?_
                rotate_left
                · (intro w hSw; (try dsimp only at hSw); obtain ⟨_, d1, d2, d3, d4, d5, d6, d7⟩ := hSw; go_simp; try with_reducible rfl)
                try simp only [Act.put, List.setIfInBounds_toArray, List.set_cons_zero, List.set_cons_succ]
                refine wpAnyH_take (i := 34) (oi := ⟨some 95, .indexAddr 23 (.tmp 93) (.tmp 94), 0, "law.go:135", #[⟨32, .data⟩, ⟨33, .data⟩, ⟨29, .guard⟩], some (29, Bool.false)⟩) (v := ?_) rfl (by kernel_rfl) (by kernel_rfl) (by kernel_rfl) (fun _ _ _ h => h) (Or.inl ⟨by first | kernel_rfl | rfl, ?_⟩) (by assumption) ?_
                rotate_left
                · (intro w hSw; (try dsimp only at hSw); obtain ⟨_, d1, d2, d3, d4, d5, d6, d7⟩ := hSw; go_simp; try with_reducible rfl)
                try simp only [Act.put, List.setIfInBounds_toArray, List.set_cons_zero, List.set_cons_succ]
                refine wpAnyH_take (i := 35) (oi := ⟨some 96, .fieldAddr 28 (.tmp 95) 1, 0, "law.go:135", #[⟨34, .data⟩, ⟨29, .guard⟩], some (29, Bool.false)⟩) (v := ?_) rfl (by kernel_rfl) (by kernel_rfl) (by kernel_rfl) (fun _ _ _ h => h) (Or.inl ⟨by first | kernel_rfl | rfl, ?_⟩) (by assumption) ?_
                rotate_left
                · (intro w hSw; (try dsimp only at hSw); obtain ⟨_, d1, d2, d3, d4, d5, d6, d7⟩ := hSw; go_simp; try with_reducible rfl)
                try simp only [Act.put, List.setIfInBounds_toArray, List.set_cons_zero, List.set_cons_succ]
                refine wpAnyH_take (i := 36) (oi := ⟨some 97, .load 3 (.tmp 96), 3, "law.go:135", #[⟨35, .data⟩, ⟨29, .guard⟩], some (29, Bool.false)⟩) (v := ?_) rfl (by kernel_rfl) (by kernel_rfl) (by kernel_rfl) (fun _ _ _ h => h) (Or.inl ⟨by first | kernel_rfl | rfl, ?_⟩) (by assumption) ?_
                rotate_left
                · (intro w hSw; (try dsimp only at hSw); obtain ⟨_, d1, d2, d3, d4, d5, d6, d7⟩ := hSw; go_simp; try with_reducible rfl)
                try simp only [Act.put, List.setIfInBounds_toArray, List.set_cons_zero, List.set_cons_succ]
                refine wpAnyH_take (i := 37) (oi := ⟨some 98, .fieldAddr 28 (.tmp 9) 1, 0, "law.go:135", #[⟨29, .guard⟩], some (29, Bool.false)⟩) (v := ?_) rfl (by kernel_rfl) (by kernel_rfl) (by kernel_rfl) (fun _ _ _ h => h) (Or.inl ⟨by first | kernel_rfl | rfl, ?_⟩) (by assumption) ?_
                rotate_left
                · (intro w hSw; (try dsimp only at hSw); obtain ⟨_, d1, d2, d3, d4, d5, d6, d7⟩ := hSw; go_simp; try with_reducible rfl)
                try simp only [Act.put, List.setIfInBounds_toArray, List.set_cons_zero, List.set_cons_succ]
                refine wpAnyH_take (i := 38) (oi := ⟨some 99, .load 3 (.tmp 98), 3, "law.go:135", #[⟨37, .data⟩, ⟨29, .guard⟩], some (29, Bool.false)⟩) (v := ?_) rfl (by kernel_rfl) (by kernel_rfl) (by kernel_rfl) (fun _ _ _ h => h) (Or.inl ⟨by first | kernel_rfl | rfl, ?_⟩) (by assumption) ?_
                rotate_left
                · (intro w hSw; (try dsimp only at hSw); obtain ⟨_, d1, d2, d3, d4, d5, d6, d7⟩ := hSw; go_simp; try with_reducible rfl)
                try simp only [Act.put, List.setIfInBounds_toArray, List.set_cons_zero, List.set_cons_succ]
                refine wpAnyH_take (i := 39) (oi := ⟨some 100, .binOp BinOp.gtr 3 (.tmp 97) (.tmp 99) 3, 4, "law.go:135", #[⟨36, .data⟩, ⟨38, .data⟩, ⟨29, .guard⟩], some (29, Bool.false)⟩) (v := ?_) rfl (by kernel_rfl) (by kernel_rfl) (by kernel_rfl) (fun _ _ _ h => h) (Or.inl ⟨by first | kernel_rfl | rfl, ?_⟩) (by assumption) ?_
                rotate_left
                · (intro w hSw; (try dsimp only at hSw); obtain ⟨_, d1, d2, d3, d4, d5, d6, d7⟩ := hSw; go_simp; try with_reducible rfl)
                try simp only [Act.put, List.setIfInBounds_toArray, List.set_cons_zero, List.set_cons_succ]
                refine wpAnyH_take (i := 40) (oi := ⟨some 101, .pick (.tmp 90) (.const (.bool Bool.true)) (.tmp 100), 4, "law.go:135", #[⟨29, .data⟩, ⟨39, .data⟩], none⟩) (v := ?_) rfl (by kernel_rfl) (by kernel_rfl) (by kernel_rfl) (fun _ _ _ h => h) (Or.inl ⟨by first | kernel_rfl | rfl, ?_⟩) (by assumption) ?_
                rotate_left
                · (intro w hSw; (try dsimp only at hSw); obtain ⟨_, d1, d2, d3, d4, d5, d6, d7⟩ := hSw; go_simp; try with_reducible rfl)
                try simp only [Act.put, List.setIfInBounds_toArray, List.set_cons_zero, List.set_cons_succ]
                refine wpAnyH_done (by kernel_rfl) ?_ _
                refine NoPanic.normal ?_
                go_wp2
                go_roundw
                case rel => exact ⟨j + 1, _, rfl, by omega, by go_num, (by repeat (first | exact HY.out | (with_reducible refine Bel.drwN ?_ _) | (with_reducible refine Bel.drw ?_) | (with_reducible refine Bel.al ?_ _)))⟩
                case measure => simp [intOf]; omega
              · obtain rfl : j = 3 := by omega
                have HYX : Hid (Bel wr wy) := HXQ.out.tr (HPX.out.tr hby)
                clear hby
                go_wp2
                go_roundw
                case rel => exact ⟨i + 1, _, rfl, by omega, by go_num, (by repeat (first | exact HYX.out | (with_reducible refine Bel.drwN ?_ _) | (with_reducible refine Bel.drw ?_) | (with_reducible refine Bel.al ?_ _)))⟩
                case measure => simp [intOf]; omega
        · obtain rfl : i = nb := by omega
          have HBT : Hid (Bel w wq) := (HB2.out.tr HB.out).tr hbq
          clear hbq
          go_wp2_with (go_at_call 12; refine (AW.out _).mono ?_; rintro e w9 ⟨rfl, hb9⟩; have HB9 : Hid (Bel w w9) := HBT.out.tr (Bel.tr (by repeat (first | exact Bel.rf | (with_reducible refine Bel.drwN ?_ _) | (with_reducible refine Bel.drw ?_) | (with_reducible refine Bel.al ?_ _))) hb9); clear hb9)
          go_ret
          exact ⟨rfl, (show Bel w _ from (by repeat (first | exact HB9.out | (with_reducible refine Bel.drwN ?_ _) | (with_reducible refine Bel.drw ?_) | (with_reducible refine Bel.al ?_ _)))).bl⟩

set_option maxRecDepth 100000 in
theorem lifted (os : Os) (started : os.Started) (H : Type) (enc : TypeId × Value → H) :
    ReturnsInHanded {} Try.checked os 6 .any (Rows.cleanBetweenSpec.pre6 enc Try.prog Try.f6 Rows.cleanBetweenRow.domain false) (Rows.cleanBetweenSpec.post enc Try.prog Try.f6 false true false false) := by
  refine returnsInHanded_of_change (C := Try.checked) own started (by kernel_rfl) Try.func6
    (ChangeSpec.witness6 (enc := enc) (C := Try.checked) false ⟨#[], #[.slice none 0 0], []⟩ 8 (by kernel_rfl) (by kernel_rfl) (by kernel_rfl) (by kernel_rfl)) ?_
  intro W base args ds gs before hval0 hW hcnd _
  have hval : ∀ (j : Nat) t v, Try.f6.params[j]? = some t → args[j]? = some v → Value.okWide Try.prog W .any base t v := hval0
  have hW' := hW
  obtain ⟨p, q, hA0, hV, rfl, hfz, hnd⟩ := hW
  have hA : DataW.TrodAll enc Try.prog W 0 (fun _ => true) true Try.f6.params.toList args.toList ds p := hA0
  rw [Try.params6] at hA hval
  obtain ⟨v0, vs0, d0, ds0, p0, q0, hargs, rfl, rfl, h0, r0⟩ := trodAll_cons hA
  obtain ⟨rfl, rfl, rfl⟩ := trodAll_nil r0
  obtain rfl : args = #[v0] := by cases args; simp_all
  obtain ⟨rfl, rfl⟩ := trodVars_none hV
  obtain ⟨a0, len0, cap0, rfl⟩ := okWide_slice Try.underlying22 (hval 0 22 v0 rfl rfl)
  have k0 := h0
  have lt0 : ∀ x ∈ p0, x.block < W.heap.size := by obtain ⟨m, hm⟩ := k0; exact DataW.trod_lt m _ _ _ hm
  obtain ⟨z0, w0⟩ : ∃ zs, IsRow .i64 W a0 len0 cap0 zs := by
    obtain ⟨fuel, hf⟩ := h0
    rcases open_ints Try.underlying22 Try.underlying3 (by kernel_rfl) hf with ⟨hcs, _⟩ | ⟨x, l, c, zs, hcs, _, hl, hm, hz, _, hcell, hwz⟩
    · simp [Value.cells] at hcs
      obtain ⟨rfl, rfl, rfl⟩ := hcs
      exact ⟨[], .inl ⟨rfl, rfl, rfl, rfl⟩⟩
    · simp [Value.cells] at hcs
      obtain ⟨rfl, rfl, rfl⟩ := hcs
      exact ⟨zs, .inr ⟨_, rfl, hl, hm, by simpa using hz, hcell, hwz⟩⟩
  clear hA0 hval0
  refine (walk a0 len0 cap0 z0 W w0).mono fun e W' ⟨he, bel⟩ => ?_
  subst he
  exact ⟨_, rfl, _, _, _, [], _, [], hW', trodAll_mk1 (shut_bool Try.underlying4 _), (trodAll_cons_mk (Below.trod laidOut (by kernel_rfl) (of_decide_eq_true (by kernel_rfl)) k0 bel lt0) trodAll_mk0), rfl, bel.frame _, fun h => by cases h⟩

theorem over : Rows.cleanBetweenRow.holds Try.pinned (OpenSpec.ofChange Rows.cleanBetweenSpec) :=
  OpenClaim.holds_of_wide 6 Try.f6 rfl rfl rfl rfl rfl rfl rfl ⟨rfl, rfl, rfl, rfl, rfl⟩ rfl rfl rfl rfl rfl (by kernel_rfl) Try.func6 (by kernel_rfl)
    (of_decide_eq_true (by kernel_rfl)) (by unfold Func.isWrapper; first | (rw [if_pos (by decide +kernel)]; kernel_rfl) | (rw [if_neg (by decide +kernel)]; exact ⟨rfl, rfl⟩))
    (fun os started H enc _ => lifted os started H enc)

theorem proved : Rows.CleanBetweenSaid := over
end Go.Proofs.Ytgcjangnlbhicaa.cleanBetween
