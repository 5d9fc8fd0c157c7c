/- That the law CleanRepeats returns true for every input that can be read, and leaves its arguments as they were; no further condition. -/
import Derived.Test.YtgcjangnlbhicaaRows
import Derived.WalkKit
import Derived.ProofKit
import Derived.OpenShut
import Derived.Test.YtgcjangnlbhicaaWords
import Derived.Test.YtgcjangnlbhicaaSrcNew0
import Derived.Test.YtgcjangnlbhicaaStH
import Derived.ShutString
import Derived.ChangeOld
import Derived.Below
namespace Go.Proofs.Ytgcjangnlbhicaa.cleanRepeats
open Go.ChangeShapes Go.WideShapes Go.ChangeAt Go.RowKit Wo
open Go.ChangeMaps (open_string shut_string)
set_option linter.unusedVariables false

theorem own : ownKnob Try.prog.godebug = none := by kernel_rfl
theorem laidOut : laidOutB Try.prog = true := by kernel_rfl

/-- WHAT THE WALK IS TOLD OF A SLICE OF INTEGERS THAT CAME IN: it is nil; or it leads to a row of 'cap' cells, the numbers 'zs' (the first 'len' are its elements, the rest its spare room), each fitting its kind. -/
def IsRow (k : IntKind) (w : World) (a : Option Addr) (len cap : Nat) (zs : List Int) : Prop :=
  (a = none ∧ len = 0 ∧ cap = 0 ∧ zs = []) ∨
  ∃ x, a = some x ∧ len ≤ cap ∧ cap ≤ maxLen ∧ zs.length = cap ∧ (∀ i, i < zs.length → w.cell? (x.add i) = some (.int k (zs.getD i 0))) ∧ ∀ n ∈ zs, (Lit.int k n).wf = true

open Go.Proofs.Ytgcjangnlbhicaa.St Go.Proofs.Ytgcjangnlbhicaa.Pk Go.Proofs.Ytgcjangnlbhicaa.Rg Go.Proofs.Ytgcjangnlbhicaa.Rm Go.Proofs.Ytgcjangnlbhicaa.Wi Go.Proofs.Ytgcjangnlbhicaa.Wo Go.Proofs.Ytgcjangnlbhicaa.Sr in
set_option maxHeartbeats 8000000 in
set_option maxRecDepth 100000 in
set_option linter.unusedSimpArgs false in
theorem walk (a0 : Option Addr) (len0 cap0 : Nat) (z0 : List Int) (w : World) (w0 : IsRow .i64 w a0 len0 cap0 z0) :
    Calls Try.prog 4 #[.slice a0 len0 cap0] w fun e w' => e = .returned (.bool true) ∧ Below w.heap.size w w' := by
  have AW : Hid (∀ W, Calls Try.prog 12 #[] W fun e w' => e = .returned (.bool true) ∧ Bel W w') := awake_any
  go_enter Try.func4, Try.ntmps4
  go_wp2_with fail
  go_at_call 8
  refine (new_any a0 len0 cap0 z0 w w0).mono ?_
  rintro e v1 ⟨g, rfl, hg, ho1, hb1⟩
  have HO1 := Lib.hid ho1
  have HB1 := Lib.hid hb1
  clear ho1 hb1 w0
  go_wp2_with fail
  go_at_call 9
  refine (readings_new g 25 (by decide) _ HO1.out).mono ?_
  rintro e v2 ⟨v, k, l, rfl, hown, hl, hk, hv, ho2, hc2⟩
  have HB2 : Hid (Bel w v2) := Bel.ch HB1.out hc2 hg
  obtain ⟨A, ca, rfl, hz, hA⟩ := own_zn hown hl
  have HZ := Lib.hid hz
  have HV := Lib.hid hv
  have HL := Lib.hid hl
  have HA := Lib.hid hA
  have kk : (k : Int) ≤ 25 := by omega
  clear hown hz hv hl ho2 hc2 hA
  go_wp2_with fail
  go_at_call 13
  refine (repeated_ok A ca k l (by omega) HV.out _ (by first | exact Zr.zo HZ.out | exact Zo.bel (Zr.zo HZ.out) (Bel.rf.drwN _)) HA.out).mono ?_
  rintro e w3 ⟨vr, rfl, ho3, hb3⟩
  have hT := rep_len l
  obtain ⟨kr, hkr⟩ : ∃ x, (rpt (grs l)).length = x := ⟨_, rfl⟩
  rw [hkr] at ho3 hT
  obtain ⟨A3, c3, rfl, hz3, _⟩ := row_zi ho3 hkr
  have HZ3 := Lib.hid hz3
  have HKR := Lib.hid hkr
  have HV3 : Hid (Bel v2 w3) := by first | exact hb3 | exact (Bel.rf.drwN _).tr hb3
  obtain ⟨nb, hnb⟩ : ∃ x, (grs l).length = x := ⟨_, rfl⟩
  rw [hnb, HL.out] at hT
  have HNB := Lib.hid hnb
  have nn : nb ≤ 25 := by omega
  have nr : kr ≤ 25 := by omega
  have ni : (nb : Int) ≤ 25 := by omega
  have ri : (kr : Int) ≤ 25 := by omega
  have HT := Lib.hid hT
  clear ho3 hb3 hz3 hkr hnb hT
  rcases Nat.eq_zero_or_pos kr with hk0 | hk0
  · subst hk0
    obtain ⟨hn1, hn2⟩ := rep_none HKR.out
    have hnk : nb = k := by have := HNB.out; have := HL.out; omega
    subst hnk
    have HN2 := Lib.hid hn2
    clear hn1 hn2
    go_wp2_with fail
    go_at_call 10
    refine (clean_ok A ca nb l 6 (by decide) (by decide) (by omega) HV.out _ (by first | exact Zo.bel (Zr.zo HZ.out) HV3.out | exact Zo.bel (Zr.zo HZ.out) (HV3.out.drwN _)) HA.out (fun _ => HN2.out)).mono ?_
    rintro e w4 ⟨v5, rfl, ho, hb⟩
    have hln : (cln 6 l).length = nb := by rw [cln_len]; exact HNB.out
    rw [hln] at ho
    obtain ⟨A5, c5, rfl, hz5⟩ := own_zr ho hln
    have HZ5 := Lib.hid hz5
    have HV4 : Hid (Bel v2 w4) := by first | exact HV3.out.tr hb | exact (HV3.out.drwN _).tr hb
    clear ho hb hz5 hln
    go_wp2_with fail
    go_at_call 10
    refine (clean_ok A ca nb l 1 (by decide) (by decide) (by omega) HV.out _ (by first | exact Zo.bel (Zr.zo HZ.out) HV4.out | exact Zo.bel (Zr.zo HZ.out) (HV4.out.drwN _)) HA.out (fun h => by cases h)).mono ?_
    rintro e w5 ⟨v6, rfl, ho, hb⟩
    have hln : (cln 1 l).length = nb := by rw [cln_len]; exact HNB.out
    rw [hln] at ho
    obtain ⟨A6, c6, rfl, hz6⟩ := own_zr ho hln
    have HZB := Lib.hid hz6
    have HZA : Hid (Zr w5 A5 nb (cln 6 l)) := by first | exact HZ5.out.bel hb | exact HZ5.out.bel ((Bel.rf.drwN _).tr hb)
    have HV5 : Hid (Bel v2 w5) := by first | exact HV4.out.tr hb | exact (HV4.out.drwN _).tr hb
    clear ho hb hz6 hln
    go_wp2
    go_loopw [27] (fun s27 wr => s27 = .int .i64 0 ∧ Bel w5 wr) (fun _ _ => 0)
    case atStart => exact ⟨rfl, by first | exact Bel.rf | exact Bel.rf.drwN _⟩
    case round =>
      obtain ⟨rfl, hb⟩ := hrel
      have HBW : Hid (Bel w5 _) := hb
      have HBT : Hid (Bel w _) := HB2.out.tr (HV5.out.tr hb)
      clear hb
      go_wp2_with (first
        | (go_at_call 11; refine (same_ok A5 A6 _ _ nb nb (cln 6 l) (cln 1 l) (by omega) (by omega) _ (by first | exact HZA.out.bel HBW.out | exact HZA.out.bel (HBW.out.drwN _) | exact HZA.out.bel HBW.out.drw) (by first | exact HZB.out.bel HBW.out | exact HZB.out.bel (HBW.out.drwN _) | exact HZB.out.bel HBW.out.drw)).mono ?_; rintro e w8 ⟨rfl, hb8⟩; have dd : decide (cln 6 l = cln 1 l) = true := (decide_eq_true (cln_16 l)); rw [dd]; have HB8 : Hid (Bel w w8) := (by first | exact (HBT.out).tr hb8 | exact (HBT.out.drwN _).tr hb8 | exact HBT.out.drw.tr hb8); clear hb8 dd)
        | (go_at_call 12; refine (AW.out _).mono ?_; rintro e w9 ⟨rfl, hb9⟩; have HB9 : Hid (Bel w w9) := (by first | exact HB8.out.tr hb9 | exact (HB8.out.drwN _).tr hb9); clear hb9))
      go_ret
      exact ⟨rfl, (by first | exact HB9.out.bl | exact (HB9.out.drwN _).bl)⟩
  · go_wp2_with fail
    go_at_call 10
    refine (clean_twice A ca k l (by omega) HV.out _ (by first | exact Zo.bel (Zr.zo HZ.out) HV3.out | exact Zo.bel (Zr.zo HZ.out) (HV3.out.drwN _)) HA.out (rep_some (by rw [HKR.out]; exact hk0))).mono ?_
    rintro e w4 ⟨rfl, hb⟩
    have HV4 : Hid (Bel v2 w4) := by first | exact HV3.out.tr hb | exact (HV3.out.drwN _).tr hb
    have HZ4 : Hid (Zi w4 A3 kr (rpt (grs l))) := by first | exact HZ3.out.bel hb | exact HZ3.out.bel ((Bel.rf.drwN _).tr hb)
    clear hb
    go_wp2_with fail
    go_at_call 10
    refine (clean_ok A ca k l 1 (by decide) (by decide) (by omega) HV.out _ (by first | exact Zo.bel (Zr.zo HZ.out) HV4.out | exact Zo.bel (Zr.zo HZ.out) (HV4.out.drwN _)) HA.out (fun h => by cases h)).mono ?_
    rintro e w5 ⟨v6, rfl, ho, hb⟩
    have hln : (cln 1 l).length = nb := by rw [cln_len]; exact HNB.out
    rw [hln] at ho
    obtain ⟨A6, c6, rfl, hz6⟩ := own_zr ho hln
    have HV5 : Hid (Bel v2 w5) := by first | exact HV4.out.tr hb | exact (HV4.out.drwN _).tr hb
    have HZ5 : Hid (Zi w5 A3 kr (rpt (grs l))) := by first | exact HZ4.out.bel hb | exact HZ4.out.bel ((Bel.rf.drwN _).tr hb)
    clear ho hb hz6 hln
    go_wp2
    go_loopw [27] (fun s27 wr => ∃ (i : Nat) (V : World) (I : Int), V = wr ∧ i ≤ kr ∧ s27 = .int .i64 I ∧ I = (i : Int) ∧ Bel w5 wr) (fun s27 _ => kr - (intOf s27).toNat)
    case atStart => exact ⟨0, _, 0, rfl, by omega, rfl, rfl, by first | exact Bel.rf | exact Bel.rf.drwN _⟩
    case round =>
      obtain ⟨i, wr, I, hwr, hik, rfl, hI, hb⟩ := hrel
      subst hwr
      have HBW := Lib.hid hb
      have HZI := Lib.hid (HZ5.out.bel hb)
      have HZX : Hid (∀ W, Bel wr W → Zo W A k l) := fun W hW => Zo.bel (Zr.zo HZ.out) ((HV5.out.tr hb).tr hW)
      clear hb
      rcases Nat.lt_or_ge i kr with hlt | hge
      · obtain ⟨ad, e, hx, hc⟩ := HZI.out.2 (by omega)
        subst e
        have c1 := hc i hlt
        have h2 := rep_two (l := l) (i := i) (by rw [HKR.out]; exact hlt)
        obtain ⟨t, ht⟩ : ∃ x, (rpt (grs l)).getD i 0 = x := ⟨_, rfl⟩
        rw [ht] at c1 h2
        have hvl : (vs l t).length = (fl l t).length := by unfold vs; rw [List.length_map]
        obtain ⟨m, hm⟩ : ∃ x, (vs l t).length = x := ⟨_, rfl⟩
        rw [← hvl, hm] at h2
        have hmk : m ≤ 25 := by have := vs_le l t; have := HL.out; omega
        have m2 : ¬ (m : Int) < 2 := by omega
        have m2' : decide ((m : Int) < 2) = false := decide_eq_false m2
        have mi : (m : Int) ≤ 25 := by omega
        have HVL : Hid (∀ W, Bel wr W → Calls Try.prog 14 #[.slice A k ca, .int .i64 t] W fun e w' => ∃ a c, e = .returned (.slice a m c) ∧ Bel W w') := fun W hW => by
          refine (values_ok A ca k l t (by omega) W (HZX.out W hW)).mono ?_
          rintro e w' ⟨v, rfl, ho, hb⟩
          rw [hm] at ho
          obtain ⟨a, c, rfl, _⟩ := own_any ho
          exact ⟨a, c, rfl, hb⟩
        have HT1 := Lib.hid ht
        clear hm hvl h2 ht
        rcases Nat.eq_zero_or_pos i with hi0 | hi0
        · obtain rfl : I = 0 := by omega
          have c1' : wr.cell? ad = some (.int .i64 t) := by rw [hi0] at c1; simpa [Addr.add] using c1
          have ii : (0 : Int) < (kr : Int) := by omega
          have HI0 := Lib.hid hi0
          clear hc hi0 hI c1
          have HKS : Hid (∀ W, Bel wr W → Bel wr W ∧ W.cell? ad = some (.int .i64 t)) := fun W hW => ⟨hW, hW.kp c1'⟩
          go_wp2
          refine wp_region_noPanic ?_
          refine wp_region_held_drew (S := fun W => Bel wr W ∧ W.cell? ad = some (.int .i64 t)) (by kernel_rfl) ?_ (fun hH0 => ?_)
          · (try dsimp only); (refine HKS.out _ ?_; repeat (first | exact HBX.out | exact Bel.rf | (with_reducible refine Bel.drwN ?_ _) | (with_reducible refine Bel.drw ?_)))
          refine wpAnyH_take (i := 0) (oi := ⟨some 30, .move (.tmp 3), 23, "law.go:150", #[], none⟩) (v := ?_) rfl (by kernel_rfl) (by kernel_rfl) (by kernel_rfl) (fun _ _ _ h => h) (Or.inl ⟨by first | kernel_rfl | rfl, ?_⟩) (by assumption) ?_
          rotate_left
          · (intro w hSw; (try dsimp only at hSw); obtain ⟨_, d1⟩ := hSw; go_simp; try with_reducible rfl)
          try simp only [Act.put, List.setIfInBounds_toArray, List.set_cons_zero, List.set_cons_succ]
          refine wpAnyH_take (i := 1) (oi := ⟨some 31, .move (.tmp 4), 22, "law.go:150", #[], none⟩) (v := ?_) rfl (by kernel_rfl) (by kernel_rfl) (by kernel_rfl) (fun _ _ _ h => h) (Or.inl ⟨by first | kernel_rfl | rfl, ?_⟩) (by assumption) ?_
          rotate_left
          · (intro w hSw; (try dsimp only at hSw); obtain ⟨_, d1⟩ := hSw; go_simp; try with_reducible rfl)
          try simp only [Act.put, List.setIfInBounds_toArray, List.set_cons_zero, List.set_cons_succ]
          refine wpAnyH_take (i := 2) (oi := ⟨some 32, .move (.tmp 9), 3, "law.go:150", #[], none⟩) (v := ?_) rfl (by kernel_rfl) (by kernel_rfl) (by kernel_rfl) (fun _ _ _ h => h) (Or.inl ⟨by first | kernel_rfl | rfl, ?_⟩) (by assumption) ?_
          rotate_left
          · (intro w hSw; (try dsimp only at hSw); obtain ⟨_, d1⟩ := hSw; go_simp; try with_reducible rfl)
          try simp only [Act.put, List.setIfInBounds_toArray, List.set_cons_zero, List.set_cons_succ]
          refine wpAnyH_take (i := 3) (oi := ⟨some 33, .indexAddr 22 (.tmp 31) (.tmp 32), 0, "law.go:150", #[⟨1, .data⟩, ⟨2, .data⟩], none⟩) (v := ?_) rfl (by kernel_rfl) (by kernel_rfl) (by kernel_rfl) (fun _ _ _ h => h) (Or.inl ⟨by first | kernel_rfl | rfl, ?_⟩) (by assumption) ?_
          rotate_left
          · (intro w hSw; (try dsimp only at hSw); obtain ⟨_, d1⟩ := hSw; go_simp; try with_reducible rfl)
          try simp only [Act.put, List.setIfInBounds_toArray, List.set_cons_zero, List.set_cons_succ]
          refine wpAnyH_take (i := 4) (oi := ⟨some 34, .load 3 (.tmp 33), 3, "law.go:150", #[⟨3, .data⟩], none⟩) (v := ?_) rfl (by kernel_rfl) (by kernel_rfl) (by kernel_rfl) (fun _ _ _ h => h) (Or.inl ⟨by first | kernel_rfl | rfl, ?_⟩) (by assumption) ?_
          rotate_left
          · (intro w hSw; (try dsimp only at hSw); obtain ⟨_, d1⟩ := hSw; go_simp; try with_reducible rfl)
          try simp only [Act.put, List.setIfInBounds_toArray, List.set_cons_zero, List.set_cons_succ]
          refine wpAnyH_ready (rs := [5]) (by kernel_rfl) (by simp) ?_
          refine AllReadyH.cons (o := ⟨some 35, .call { callee := Callee.value (.func 14), args := #[.tmp 30, .tmp 34], argTypes := #[23, 3] }, 22, "law.go:150", #[⟨0, .data⟩, ⟨4, .data⟩], none⟩) rfl (fun K hK => ?_) AllReadyH.nil
          go_simp
          go_at_call 14; refine (HVL.out _ (by repeat (first | exact Bel.rf | (with_reducible refine Bel.drwN ?_ _) | (with_reducible refine Bel.drw ?_)))).mono ?_; rintro e wz ⟨a9, c9, rfl, hbz⟩; have HBX : Hid (Bel wr wz) := Bel.tr (by repeat (first | exact Bel.rf | (with_reducible refine Bel.drwN ?_ _) | (with_reducible refine Bel.drw ?_))) hbz; clear hbz
          try go_wp2_with fail
          refine hK.out _ _ ?_ (fun hH1 => ?_)
          · (try dsimp only); (refine HKS.out _ ?_; repeat (first | exact HBX.out | exact Bel.rf | (with_reducible refine Bel.drwN ?_ _) | (with_reducible refine Bel.drw ?_)))
          clear hK K hH0
          try simp only [Act.put, List.setIfInBounds_toArray, List.set_cons_zero, List.set_cons_succ]
          refine wpAnyH_take (i := 6) (oi := ⟨some 36, .call { callee := Callee.builtin Builtin.len, args := #[.tmp 35], argTypes := #[22] }, 3, "law.go:150", #[⟨5, .data⟩], none⟩) (v := ?_) rfl (by kernel_rfl) (by kernel_rfl) (by kernel_rfl) (fun _ _ _ h => h) (Or.inl ⟨by first | kernel_rfl | rfl, ?_⟩) (by assumption) ?_
          rotate_left
          · (intro w hSw; (try dsimp only at hSw); obtain ⟨_, d1⟩ := hSw; go_simp; try with_reducible rfl)
          try simp only [Act.put, List.setIfInBounds_toArray, List.set_cons_zero, List.set_cons_succ]
          refine wpAnyH_take (i := 7) (oi := ⟨some 37, .binOp BinOp.lss 3 (.tmp 36) (.const (.int IntKind.i64 2)) 3, 4, "law.go:150", #[⟨6, .data⟩], none⟩) (v := ?_) rfl (by kernel_rfl) (by kernel_rfl) (by kernel_rfl) (fun _ _ _ h => h) (Or.inl ⟨by first | kernel_rfl | rfl, ?_⟩) (by assumption) ?_
          rotate_left
          · (intro w hSw; (try dsimp only at hSw); obtain ⟨_, d1⟩ := hSw; go_simp; try with_reducible rfl)
          try simp only [Act.put, List.setIfInBounds_toArray, List.set_cons_zero, List.set_cons_succ]
          refine wpAnyH_take (i := 8) (oi := ⟨some 38, .move (.tmp 37), 4, "law.go:150", #[⟨7, .data⟩, ⟨5, .chain⟩], none⟩) (v := ?_) rfl (by kernel_rfl) (by kernel_rfl) (by kernel_rfl) (fun _ _ _ h => h) (Or.inl ⟨by first | kernel_rfl | rfl, ?_⟩) (by assumption) ?_
          rotate_left
          · (intro w hSw; (try dsimp only at hSw); obtain ⟨_, d1⟩ := hSw; go_simp; try with_reducible rfl)
          try simp only [Act.put, List.setIfInBounds_toArray, List.set_cons_zero, List.set_cons_succ]
          refine wpAnyH_take (i := 9) (oi := ⟨some 39, .move (.tmp 9), 3, "law.go:150", #[⟨8, .guard⟩], some (8, Bool.false)⟩) (v := ?_) rfl (by kernel_rfl) (by kernel_rfl) (by kernel_rfl) (fun _ _ _ h => h) (Or.inl ⟨by first | kernel_rfl | rfl, ?_⟩) (by assumption) ?_
          rotate_left
          · (intro w hSw; (try dsimp only at hSw); obtain ⟨_, d1⟩ := hSw; go_simp; try with_reducible rfl)
          try simp only [Act.put, List.setIfInBounds_toArray, List.set_cons_zero, List.set_cons_succ]
          refine wpAnyH_take (i := 10) (oi := ⟨some 40, .binOp BinOp.gtr 3 (.tmp 39) (.const (.int IntKind.i64 0)) 3, 4, "law.go:150", #[⟨9, .data⟩, ⟨8, .guard⟩], some (8, Bool.false)⟩) (v := ?_) rfl (by kernel_rfl) (by kernel_rfl) (by kernel_rfl) (fun _ _ _ h => h) (Or.inl ⟨by first | kernel_rfl | rfl, ?_⟩) (by assumption) ?_
          rotate_left
          · (intro w hSw; (try dsimp only at hSw); obtain ⟨_, d1⟩ := hSw; go_simp; try with_reducible rfl)
          try simp only [Act.put, List.setIfInBounds_toArray, List.set_cons_zero, List.set_cons_succ]
          refine wpAnyH_take (i := 11) (oi := ⟨some 41, .move (.tmp 40), 4, "law.go:150", #[⟨10, .data⟩, ⟨8, .chain⟩, ⟨8, .guard⟩], some (8, Bool.false)⟩) (v := ?_) rfl (by kernel_rfl) (by kernel_rfl) (by kernel_rfl) (fun _ _ _ h => h) (Or.inl ⟨by first | kernel_rfl | rfl, ?_⟩) (by assumption) ?_
          rotate_left
          · (intro w hSw; (try dsimp only at hSw); obtain ⟨_, d1⟩ := hSw; go_simp; try with_reducible rfl)
          try simp only [Act.put, List.setIfInBounds_toArray, List.set_cons_zero, List.set_cons_succ]
          refine wpAnyH_take (i := 12) (oi := ⟨some 42, .move (.tmp 4), 22, "law.go:150", #[⟨11, .guard⟩], some (11, Bool.true)⟩) (v := undef) rfl (by kernel_rfl) (by kernel_rfl) (by kernel_rfl) (fun _ _ _ h => h) (Or.inr ⟨by first | kernel_rfl | rfl, rfl⟩) (by assumption) ?_
          try simp only [Act.put, List.setIfInBounds_toArray, List.set_cons_zero, List.set_cons_succ]
          refine wpAnyH_take (i := 13) (oi := ⟨some 43, .move (.tmp 9), 3, "law.go:150", #[⟨11, .guard⟩], some (11, Bool.true)⟩) (v := undef) rfl (by kernel_rfl) (by kernel_rfl) (by kernel_rfl) (fun _ _ _ h => h) (Or.inr ⟨by first | kernel_rfl | rfl, rfl⟩) (by assumption) ?_
          try simp only [Act.put, List.setIfInBounds_toArray, List.set_cons_zero, List.set_cons_succ]
          refine wpAnyH_take (i := 14) (oi := ⟨some 44, .indexAddr 22 (.tmp 42) (.tmp 43), 0, "law.go:150", #[⟨12, .data⟩, ⟨13, .data⟩, ⟨11, .guard⟩], some (11, Bool.true)⟩) (v := undef) rfl (by kernel_rfl) (by kernel_rfl) (by kernel_rfl) (fun _ _ _ h => h) (Or.inr ⟨by first | kernel_rfl | rfl, rfl⟩) (by assumption) ?_
          try simp only [Act.put, List.setIfInBounds_toArray, List.set_cons_zero, List.set_cons_succ]
          refine wpAnyH_take (i := 15) (oi := ⟨some 45, .load 3 (.tmp 44), 3, "law.go:150", #[⟨14, .data⟩, ⟨11, .guard⟩], some (11, Bool.true)⟩) (v := undef) rfl (by kernel_rfl) (by kernel_rfl) (by kernel_rfl) (fun _ _ _ h => h) (Or.inr ⟨by first | kernel_rfl | rfl, rfl⟩) (by assumption) ?_
          try simp only [Act.put, List.setIfInBounds_toArray, List.set_cons_zero, List.set_cons_succ]
          refine wpAnyH_take (i := 16) (oi := ⟨some 46, .move (.tmp 4), 22, "law.go:150", #[⟨11, .guard⟩], some (11, Bool.true)⟩) (v := undef) rfl (by kernel_rfl) (by kernel_rfl) (by kernel_rfl) (fun _ _ _ h => h) (Or.inr ⟨by first | kernel_rfl | rfl, rfl⟩) (by assumption) ?_
          try simp only [Act.put, List.setIfInBounds_toArray, List.set_cons_zero, List.set_cons_succ]
          refine wpAnyH_take (i := 17) (oi := ⟨some 47, .move (.tmp 9), 3, "law.go:150", #[⟨11, .guard⟩], some (11, Bool.true)⟩) (v := undef) rfl (by kernel_rfl) (by kernel_rfl) (by kernel_rfl) (fun _ _ _ h => h) (Or.inr ⟨by first | kernel_rfl | rfl, rfl⟩) (by assumption) ?_
          try simp only [Act.put, List.setIfInBounds_toArray, List.set_cons_zero, List.set_cons_succ]
          refine wpAnyH_take (i := 18) (oi := ⟨some 48, .binOp BinOp.sub 3 (.tmp 47) (.const (.int IntKind.i64 1)) 3, 3, "law.go:150", #[⟨17, .data⟩, ⟨11, .guard⟩], some (11, Bool.true)⟩) (v := undef) rfl (by kernel_rfl) (by kernel_rfl) (by kernel_rfl) (fun _ _ _ h => h) (Or.inr ⟨by first | kernel_rfl | rfl, rfl⟩) (by assumption) ?_
          try simp only [Act.put, List.setIfInBounds_toArray, List.set_cons_zero, List.set_cons_succ]
          refine wpAnyH_take (i := 19) (oi := ⟨some 49, .indexAddr 22 (.tmp 46) (.tmp 48), 0, "law.go:150", #[⟨16, .data⟩, ⟨18, .data⟩, ⟨11, .guard⟩], some (11, Bool.true)⟩) (v := undef) rfl (by kernel_rfl) (by kernel_rfl) (by kernel_rfl) (fun _ _ _ h => h) (Or.inr ⟨by first | kernel_rfl | rfl, rfl⟩) (by assumption) ?_
          try simp only [Act.put, List.setIfInBounds_toArray, List.set_cons_zero, List.set_cons_succ]
          refine wpAnyH_take (i := 20) (oi := ⟨some 50, .load 3 (.tmp 49), 3, "law.go:150", #[⟨19, .data⟩, ⟨11, .guard⟩], some (11, Bool.true)⟩) (v := undef) rfl (by kernel_rfl) (by kernel_rfl) (by kernel_rfl) (fun _ _ _ h => h) (Or.inr ⟨by first | kernel_rfl | rfl, rfl⟩) (by assumption) ?_
          try simp only [Act.put, List.setIfInBounds_toArray, List.set_cons_zero, List.set_cons_succ]
          refine wpAnyH_take (i := 21) (oi := ⟨some 51, .binOp BinOp.leq 3 (.tmp 45) (.tmp 50) 3, 4, "law.go:150", #[⟨15, .data⟩, ⟨20, .data⟩, ⟨11, .guard⟩], some (11, Bool.true)⟩) (v := undef) rfl (by kernel_rfl) (by kernel_rfl) (by kernel_rfl) (fun _ _ _ h => h) (Or.inr ⟨by first | kernel_rfl | rfl, rfl⟩) (by assumption) ?_
          try simp only [Act.put, List.setIfInBounds_toArray, List.set_cons_zero, List.set_cons_succ]
          refine wpAnyH_take (i := 22) (oi := ⟨some 52, .pick (.tmp 41) (.tmp 51) (.const (.bool Bool.false)), 4, "law.go:150", #[⟨11, .data⟩, ⟨21, .data⟩, ⟨8, .guard⟩], some (8, Bool.false)⟩) (v := ?_) rfl (by kernel_rfl) (by kernel_rfl) (by kernel_rfl) (fun _ _ _ h => h) (Or.inl ⟨by first | kernel_rfl | rfl, ?_⟩) (by assumption) ?_
          rotate_left
          · (intro w hSw; (try dsimp only at hSw); obtain ⟨_, d1⟩ := hSw; go_simp; try with_reducible rfl)
          try simp only [Act.put, List.setIfInBounds_toArray, List.set_cons_zero, List.set_cons_succ]
          refine wpAnyH_take (i := 23) (oi := ⟨some 53, .pick (.tmp 38) (.const (.bool Bool.true)) (.tmp 52), 4, "law.go:150", #[⟨8, .data⟩, ⟨22, .data⟩], none⟩) (v := ?_) rfl (by kernel_rfl) (by kernel_rfl) (by kernel_rfl) (fun _ _ _ h => h) (Or.inl ⟨by first | kernel_rfl | rfl, ?_⟩) (by assumption) ?_
          rotate_left
          · (intro w hSw; (try dsimp only at hSw); obtain ⟨_, d1⟩ := hSw; go_simp; try with_reducible rfl)
          try simp only [Act.put, List.setIfInBounds_toArray, List.set_cons_zero, List.set_cons_succ]
          refine wpAnyH_done (by kernel_rfl) ?_ _
          refine NoPanic.normal ?_
          go_wp2
          go_roundw
          case rel => exact ⟨i + 1, _, _, rfl, by omega, rfl, by have := HI0.out; omega, by first | exact HBW.out.tr HBX.out | exact (HBW.out.tr HBX.out).drwN _ | exact (HBW.out.tr HBX.out).drw⟩
          case measure => have := HI0.out; simp [intOf]; omega
        · subst hI
          have ii : (i : Int) < (kr : Int) := by omega
          have i0 : (0 : Int) ≤ (i : Int) := by omega
          obtain ⟨j, hj⟩ : ∃ j, i = j + 1 := ⟨i - 1, by omega⟩
          have c2 := hc j (by omega)
          obtain ⟨u, hu⟩ : ∃ x, (rpt (grs l)).getD j 0 = x := ⟨_, rfl⟩
          have hlt2 : u < t := by
            have := rep_asc (l := l) (i := j) (by rw [HKR.out]; omega)
            rw [hu, ← hj, HT1.out] at this
            exact this
          rw [hu] at c2
          have HJ := Lib.hid hj
          clear hc hu hj
          have HKS : Hid (∀ W, Bel wr W → Bel wr W ∧ W.cell? (ad.add i) = some (.int .i64 t) ∧ W.cell? (ad.add j) = some (.int .i64 u)) := fun W hW => ⟨hW, hW.kp c1, hW.kp c2⟩
          have jn : (j : Int) < (kr : Int) := by have := HJ.out; omega
          have j0 : (0 : Int) ≤ (j : Int) := by omega
          have ji : (i : Int) - 1 = (j : Int) := by have := HJ.out; omega
          have jw : IntKind.i64.wrap (j : Int) = (j : Int) := IntWalk.i64_in _ (by omega)
          have jw2 : IntKind.i64.wrap ((i : Int) - 1) = (j : Int) := by rw [ji]; exact jw
          have ip : (i : Int) > 0 := by omega
          have ip' : decide ((i : Int) > 0) = true := decide_eq_true ip
          have tu : ¬ t ≤ u := by omega
          have tu' : decide (t ≤ u) = false := decide_eq_false tu
          go_wp2
          go_region_held3 (fun W => Bel wr W ∧ W.cell? (ad.add i) = some (.int .i64 t) ∧ W.cell? (ad.add j) = some (.int .i64 u)) ((refine HKS.out _ ?_; repeat (first | exact HBX.out | exact Bel.rf | (with_reducible refine Bel.drwN ?_ _) | (with_reducible refine Bel.drw ?_)))) (first
            | (go_at_call 14; refine (HVL.out _ (by repeat (first | exact Bel.rf | (with_reducible refine Bel.drwN ?_ _) | (with_reducible refine Bel.drw ?_)))).mono ?_; rintro e wz ⟨a9, c9, rfl, hbz⟩; have HBX : Hid (Bel wr wz) := Bel.tr (by repeat (first | exact Bel.rf | (with_reducible refine Bel.drwN ?_ _) | (with_reducible refine Bel.drw ?_))) hbz; clear hbz))
          obtain ⟨_, d1, d2⟩ := HKS.out wz HBX.out
          go_wp2
          go_roundw
          case rel => exact ⟨i + 1, _, _, rfl, by omega, rfl, by go_num, by first | exact HBW.out.tr HBX.out | exact (HBW.out.tr HBX.out).drwN _ | exact (HBW.out.tr HBX.out).drw⟩
          case measure => simp [intOf]; omega
      · subst hI
        obtain rfl : i = kr := by omega
        have HBT : Hid (Bel w wr) := HB2.out.tr (HV5.out.tr HBW.out)
        have z1 : ¬ (i : Int) = 0 := by omega
        have z2 : ((i : Int) == 0) = false := by simp; omega
        have z3 : (nb : Int) < (k : Int) := by have := HT.out; omega
        have z4 : (nb : Int) + (i : Int) ≤ (k : Int) := by have := HT.out; omega
        have z4' : decide ((nb : Int) + (i : Int) ≤ (k : Int)) = true := decide_eq_true z4
        go_wp2_with (first
          | (go_at_call 12; refine (AW.out _).mono ?_; rintro e w9 ⟨rfl, hb9⟩; have HB9 : Hid (Bel w w9) := (by first | exact HBT.out.tr hb9 | exact (HBT.out.drwN _).tr hb9); clear hb9))
        go_ret
        exact ⟨rfl, (by first | exact HB9.out.bl | exact (HB9.out.drwN _).bl)⟩

set_option maxRecDepth 100000 in
theorem lifted (os : Os) (started : os.Started) (H : Type) (enc : TypeId × Value → H) :
    ReturnsInHanded {} Try.checked os 4 .any (Rows.cleanRepeatsSpec.pre6 enc Try.prog Try.f4 Rows.cleanRepeatsRow.domain false) (Rows.cleanRepeatsSpec.post enc Try.prog Try.f4 false true false false) := by
  refine returnsInHanded_of_change (C := Try.checked) own started (by kernel_rfl) Try.func4
    (ChangeSpec.witness6 (enc := enc) (C := Try.checked) false ⟨#[], #[.slice none 0 0], []⟩ 8 (by kernel_rfl) (by kernel_rfl) (by kernel_rfl) (by kernel_rfl)) ?_
  intro W base args ds gs before hval0 hW hcnd _
  have hval : ∀ (j : Nat) t v, Try.f4.params[j]? = some t → args[j]? = some v → Value.okWide Try.prog W .any base t v := hval0
  have hW' := hW
  obtain ⟨p, q, hA0, hV, rfl, hfz, hnd⟩ := hW
  have hA : DataW.TrodAll enc Try.prog W 0 (fun _ => true) true Try.f4.params.toList args.toList ds p := hA0
  rw [Try.params4] at hA hval
  obtain ⟨v0, vs0, d0, ds0, p0, q0, hargs, rfl, rfl, h0, r0⟩ := trodAll_cons hA
  obtain ⟨rfl, rfl, rfl⟩ := trodAll_nil r0
  obtain rfl : args = #[v0] := by cases args; simp_all
  obtain ⟨rfl, rfl⟩ := trodVars_none hV
  obtain ⟨a0, len0, cap0, rfl⟩ := okWide_slice Try.underlying22 (hval 0 22 v0 rfl rfl)
  have k0 := h0
  have lt0 : ∀ x ∈ p0, x.block < W.heap.size := by obtain ⟨m, hm⟩ := k0; exact DataW.trod_lt m _ _ _ hm
  obtain ⟨z0, w0⟩ : ∃ zs, IsRow .i64 W a0 len0 cap0 zs := by
    obtain ⟨fuel, hf⟩ := h0
    rcases open_ints Try.underlying22 Try.underlying3 (by kernel_rfl) hf with ⟨hcs, _⟩ | ⟨x, l, c, zs, hcs, _, hl, hm, hz, _, hcell, hwz⟩
    · simp [Value.cells] at hcs
      obtain ⟨rfl, rfl, rfl⟩ := hcs
      exact ⟨[], .inl ⟨rfl, rfl, rfl, rfl⟩⟩
    · simp [Value.cells] at hcs
      obtain ⟨rfl, rfl, rfl⟩ := hcs
      exact ⟨zs, .inr ⟨_, rfl, hl, hm, by simpa using hz, hcell, hwz⟩⟩
  clear hA0 hval0
  refine (walk a0 len0 cap0 z0 W w0).mono fun e W' ⟨he, bel⟩ => ?_
  subst he
  exact ⟨_, rfl, _, _, _, [], _, [], hW', trodAll_mk1 (shut_bool Try.underlying4 _), (trodAll_cons_mk (Below.trod laidOut (by kernel_rfl) (of_decide_eq_true (by kernel_rfl)) k0 bel lt0) trodAll_mk0), rfl, bel.frame _, fun h => by cases h⟩

theorem over : Rows.cleanRepeatsRow.holds Try.pinned (OpenSpec.ofChange Rows.cleanRepeatsSpec) :=
  OpenClaim.holds_of_wide 4 Try.f4 rfl rfl rfl rfl rfl rfl rfl ⟨rfl, rfl, rfl, rfl, rfl⟩ rfl rfl rfl rfl rfl (by kernel_rfl) Try.func4 (by kernel_rfl)
    (of_decide_eq_true (by kernel_rfl)) (by unfold Func.isWrapper; first | (rw [if_pos (by decide +kernel)]; kernel_rfl) | (rw [if_neg (by decide +kernel)]; exact ⟨rfl, rfl⟩))
    (fun os started H enc _ => lifted os started H enc)

theorem proved : Rows.CleanRepeatsSaid := over
end Go.Proofs.Ytgcjangnlbhicaa.cleanRepeats
